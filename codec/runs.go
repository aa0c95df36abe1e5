package codec

import "strata/wire"

// appendRuns appends a list of 0s and 1s as runs: levels and Bools are written alike.
func appendRuns(b []byte, l []int) []byte {
	for from := 0; from < len(l); {
		to := from + 1
		for to < len(l) && l[to] == l[from] {
			to++
		}
		b = wire.AppendNumber(b, to-from)
		b = append(b, byte(l[from]))
		from = to
	}
	return b
}

// readRuns reads runs of count 0s and 1s together.
func readRuns(r *wire.Reader, count int) []int {
	l := make([]int, 0, count)
	for len(l) < count {
		length, bit := r.Number(), r.Bit()
		// A length is held against what is still wanted ahead of being laid out: it may be huge.
		if length == 0 || length > count-len(l) {
			r.GiveUp()
		}
		if len(l) > 0 && l[len(l)-1] == bit {
			r.GiveUp() // the run ahead of it could have been longer
		}
		for range length {
			l = append(l, bit)
		}
	}
	return l
}
