package codec

import "strata/wire"

// appendPacked appends numbers that are known to be below 2^width.
func appendPacked(b []byte, l []int, width int) []byte {
	held, bits := 0, 0
	for _, n := range l {
		held |= n << bits
		bits += width
		for bits >= 8 {
			b = append(b, byte(held))
			held >>= 8
			bits -= 8
		}
	}
	if bits > 0 {
		b = append(b, byte(held))
	}
	return b
}

// readPacked reads no more bytes than count numbers fill.
func readPacked(r *wire.Reader, width int, count int) []int {
	l := make([]int, 0, count)
	held, bits := 0, 0
	for range count {
		for bits < width {
			held |= int(r.Byte()) << bits
			bits += 8
		}
		l = append(l, held&(1<<width-1))
		held >>= width
		bits -= width
	}
	if held != 0 {
		r.GiveUp()
	}
	return l
}
