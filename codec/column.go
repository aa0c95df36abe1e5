package codec

import (
	"strata/api"
	"strata/values"
	"strata/wire"
)

// appendColumn appends values that are known to be of the kind, which has the encoding.
func appendColumn(b []byte, l []api.Value, kind int, encoding int) []byte {
	levels := make([]int, 0, len(l))
	present := make([]api.Value, 0, len(l))
	for _, v := range l {
		if v.Null {
			levels = append(levels, 0)
			continue
		}
		levels = append(levels, 1)
		present = append(present, v)
	}
	b = appendRuns(b, levels)
	switch encoding {
	case api.Delta:
		return appendDelta(b, present)
	case api.Dict:
		return appendDict(b, present, kind)
	case api.Runs:
		return appendRuns(b, bitsOf(present))
	}
	return appendPlain(b, present, kind)
}

// readColumn reads what appendColumn gives for count values.
func readColumn(r *wire.Reader, kind int, encoding int, count int) []api.Value {
	levels := readRuns(r, count)
	present := readPresent(r, kind, encoding, countOnes(levels))
	l := make([]api.Value, 0, count)
	next := 0
	for _, level := range levels {
		if level == 0 {
			l = append(l, api.Value{Null: true})
			continue
		}
		l = append(l, present[next])
		next++
	}
	return l
}

func readPresent(r *wire.Reader, kind int, encoding int, count int) []api.Value {
	switch encoding {
	case api.Delta:
		return readDelta(r, count)
	case api.Dict:
		return readDict(r, kind, count)
	case api.Runs:
		return valuesOf(readRuns(r, count))
	}
	return readPlain(r, kind, count)
}

func countOnes(l []int) int {
	count := 0
	for _, bit := range l {
		count += bit
	}
	return count
}

func bitsOf(l []api.Value) []int {
	bits := make([]int, 0, len(l))
	for _, v := range l {
		bits = append(bits, v.N)
	}
	return bits
}

func valuesOf(bits []int) []api.Value {
	l := make([]api.Value, 0, len(bits))
	for _, bit := range bits {
		l = append(l, api.Value{N: bit})
	}
	return l
}

func appendPlain(b []byte, l []api.Value, kind int) []byte {
	for _, v := range l {
		b = values.AppendPlain(b, v, kind)
	}
	return b
}

func readPlain(r *wire.Reader, kind int, count int) []api.Value {
	l := make([]api.Value, 0, count)
	for range count {
		l = append(l, values.ReadPlain(r, kind))
	}
	return l
}

// appendDelta begins at 0: the first value is its own difference to that.
func appendDelta(b []byte, l []api.Value) []byte {
	last := 0
	for _, v := range l {
		b = values.AppendPlain(b, api.Value{N: v.N - last}, api.Int)
		last = v.N
	}
	return b
}

func readDelta(r *wire.Reader, count int) []api.Value {
	l := make([]api.Value, 0, count)
	last := 0
	for range count {
		last += values.ReadPlain(r, api.Int).N
		l = append(l, api.Value{N: last})
	}
	return l
}
