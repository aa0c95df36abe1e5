package wire

// Bad is what a Reader panics with: the bytes are not what they must be, seen at this place.
// ReadWhole recovers from it.
type Bad struct {
	Place int
}

// Reader goes through bytes from their beginning on.
type Reader struct {
	text  string
	place int
}

// NewReader stands at the beginning of text.
func NewReader(text string) *Reader {
	return &Reader{text: text}
}

// ReadWhole answers what read makes of all bytes of text; not ok, if they are given up.
func ReadWhole[T any](text string, read func(r *Reader) T) (made T, ok bool) {
	defer func() {
		// Nothing but Bad comes up from reading (the tests hold it to that), and no call may panic.
		if recover() != nil {
			var none T
			made, ok = none, false
		}
	}()
	r := NewReader(text)
	made = read(r)
	r.End()
	return made, true
}

// GiveUp panics with Bad.
func (r *Reader) GiveUp() {
	panic(Bad{Place: r.place})
}

// Take takes the next count bytes.
func (r *Reader) Take(count int) string {
	if count < 0 || count > len(r.text)-r.place {
		r.GiveUp()
	}
	from := r.place
	r.place += count
	return r.text[from:r.place]
}

// Byte takes the next byte.
func (r *Reader) Byte() byte {
	return r.Take(1)[0]
}

// Bit takes the next byte, which must be 0 or 1.
func (r *Reader) Bit() int {
	b := r.Byte()
	if b > 1 {
		r.GiveUp()
	}
	return int(b)
}

// Varint takes a varint of at most 64 bits.
func (r *Reader) Varint() uint64 {
	var n uint64
	for shift := 0; shift < 64; shift += 7 {
		b := r.Byte()
		n |= uint64(b&127) << shift
		if b >= 128 {
			continue
		}
		// One number has one way to be written, and the tenth byte has room for one bit only.
		if (b == 0 && shift > 0) || (b > 1 && shift == 63) {
			r.GiveUp()
		}
		return n
	}
	r.GiveUp()
	return 0
}

// Number takes a varint below 2^31.
func (r *Reader) Number() int {
	n := r.Varint()
	if n >= 1<<numberBits {
		r.GiveUp()
	}
	return int(n)
}

// End gives up if bytes are left over.
func (r *Reader) End() {
	if r.place < len(r.text) {
		r.GiveUp()
	}
}
