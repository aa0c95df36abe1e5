// Package wire: the smallest parts of what is kept as bytes: single bytes, varints, numbers.
package wire

// numberBits is how many bits a number has at most, where the document says nothing else of it.
const numberBits = 31

// AppendVarint appends n as a varint.
func AppendVarint(b []byte, n uint64) []byte {
	for n >= 128 {
		b = append(b, byte(n)|128)
		n >>= 7
	}
	return append(b, byte(n))
}

// AppendNumber appends a length or a count, which is from 0 on and far below 2^31.
func AppendNumber(b []byte, n int) []byte {
	return AppendVarint(b, uint64(n))
}

// Zigzag folds the numbers below 0 in between the others, so that small ones stay short.
func Zigzag(n int64) uint64 {
	return uint64(n<<1) ^ uint64(n>>63)
}

// Unzigzag undoes Zigzag.
func Unzigzag(n uint64) int64 {
	return int64(n>>1) ^ -int64(n&1)
}
