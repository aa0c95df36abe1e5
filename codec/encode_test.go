package codec

import (
	"math"
	"slices"
	"strings"
	"testing"

	"strata/api"
)

var null = api.Value{Null: true}

func numbers(l ...int) []api.Value {
	var values []api.Value
	for _, n := range l {
		values = append(values, api.Value{N: n})
	}
	return values
}

func texts(l ...string) []api.Value {
	var values []api.Value
	for _, s := range l {
		values = append(values, api.Value{S: s})
	}
	return values
}

// upTo gives the numbers below count, which are all different.
func upTo(count int) []api.Value {
	l := make([]api.Value, count)
	for i := range l {
		l[i].N = i
	}
	return l
}

// places gives the numbers below count, packed bit by bit.
func places(count int, width int) string {
	l := make([]int, count)
	for i := range l {
		l[i] = i
	}
	return byBits(l, width)
}

// evens gives the even numbers below 2 * count, as varints of one or two bytes.
func evens(count int) string {
	var b []byte
	for n := range count {
		if 2*n < 128 {
			b = append(b, byte(2*n))
		} else {
			b = append(b, byte(2*n)|128, byte(2*n>>7))
		}
	}
	return string(b)
}

const nine = "\xff\xff\xff\xff\xff\xff\xff\xff\xff"

type column struct {
	l              []api.Value
	kind, encoding int
	s              string
}

func columns() []column {
	full := strings.Repeat("t", api.MaxText)
	nulls := slices.Repeat([]api.Value{null}, api.MaxBand)
	return []column{
		// the document's examples
		{[]api.Value{{N: 5}, null, {N: 3}}, api.Int, api.Plain, "\x01\x01\x01\x00\x01\x01\x0a\x06"},
		{[]api.Value{{N: 5}, null, {N: 3}}, api.Int, api.Delta, "\x01\x01\x01\x00\x01\x01\x0a\x03"},
		{texts("a", "b", "a"), api.Text, api.Dict, "\x03\x01\x02\x01a\x01b\x02"},
		{numbers(1, 1, 0), api.Bool, api.Runs, "\x03\x01\x02\x01\x01\x00"},
		// no values
		{nil, api.Int, api.Plain, ""}, {nil, api.Int, api.Delta, ""}, {nil, api.Int, api.Dict, "\x00"}, {nil, api.Bool, api.Plain, ""}, {nil, api.Bool, api.Runs, ""}, {nil, api.Bool, api.Dict, "\x00"}, {nil, api.Text, api.Plain, ""}, {nil, api.Text, api.Dict, "\x00"},
		// levels
		{[]api.Value{null}, api.Int, api.Delta, "\x01\x00"}, {[]api.Value{null, null}, api.Bool, api.Runs, "\x02\x00"}, {[]api.Value{null, {}, {}, null, null}, api.Bool, api.Plain, "\x01\x00\x02\x01\x02\x00\x00\x00"}, {nulls, api.Text, api.Plain, "\x64\x00"}, {nulls, api.Text, api.Dict, "\x64\x00\x00"},
		// Plain
		{numbers(0, -1, 1, 63, 64, -64, -65), api.Int, api.Plain, "\x07\x01\x00\x01\x02\x7e\x80\x01\x7f\x81\x01"},
		{numbers(math.MaxInt64, math.MinInt64), api.Int, api.Plain, "\x02\x01\xfe" + nine[1:] + "\x01" + nine + "\x01"},
		{numbers(0, 1, 1), api.Bool, api.Plain, "\x03\x01\x00\x01\x01"},
		{texts("", "\x00\xff", full), api.Text, api.Plain, "\x03\x01\x00\x02\x00\xff\x20" + full},
		{upTo(api.MaxBand), api.Int, api.Plain, "\x64\x01" + evens(api.MaxBand)},
		// Delta: over Nulls, and round the ends of the numbers
		{[]api.Value{null, {N: 7}, null, {N: 7}, {N: 5}}, api.Int, api.Delta, "\x01\x00\x01\x01\x01\x00\x02\x01\x0e\x00\x03"},
		{numbers(math.MinInt64), api.Int, api.Delta, "\x01\x01" + nine + "\x01"},
		{numbers(math.MaxInt64, math.MinInt64, math.MaxInt64), api.Int, api.Delta, "\x03\x01\xfe" + nine[1:] + "\x01\x02\x01"},
		{numbers(-1, math.MaxInt64), api.Int, api.Delta, "\x02\x01\x01" + nine + "\x01"},
		{numbers(math.MinInt64, 0), api.Int, api.Delta, "\x02\x01" + nine + "\x01" + nine + "\x01"},
		// Dict: one value, two, three; the greatest place at the edge of a bit; a full one
		{numbers(7, 7, 7), api.Int, api.Dict, "\x03\x01\x01\x0e"}, {[]api.Value{{N: 1}, null, {}}, api.Bool, api.Dict, "\x01\x01\x01\x00\x01\x01\x02\x01\x00\x02"}, {numbers(9, 8, 9, 7), api.Int, api.Dict, "\x04\x01\x03\x12\x10\x0e\x84"}, {texts("", full, ""), api.Text, api.Dict, "\x03\x01\x02\x00\x20" + full + "\x02"},
		{upTo(4), api.Int, api.Dict, "\x04\x01\x04" + evens(4) + places(4, 2)}, {upTo(5), api.Int, api.Dict, "\x05\x01\x05" + evens(5) + places(5, 3)}, {upTo(64), api.Int, api.Dict, "\x40\x01\x40" + evens(64) + places(64, 6)}, {upTo(65), api.Int, api.Dict, "\x41\x01\x41" + evens(65) + places(65, 7)}, {upTo(api.MaxBand), api.Int, api.Dict, "\x64\x01\x64" + evens(api.MaxBand) + places(api.MaxBand, 7)},
		// Runs: over Nulls; as long as can be
		{[]api.Value{{N: 1}, null, {N: 1}, {}}, api.Bool, api.Runs, "\x01\x01\x01\x00\x02\x01\x02\x01\x01\x00"}, {make([]api.Value, api.MaxBand), api.Bool, api.Runs, "\x64\x01\x64\x00"},
	}
}

func TestColumns(t *testing.T) {
	for _, c := range columns() {
		if s, e := Encode(c.l, c.kind, c.encoding); s != c.s || e != api.OK {
			t.Errorf("P5: Encode(%v, %d, %d) = %q, %d, want %q", c.l, c.kind, c.encoding, s, e, c.s)
		}
		if l, e := Decode(c.s, c.kind, c.encoding, len(c.l)); !slices.Equal(l, c.l) || e != api.OK {
			t.Errorf("P6: Decode(%q, %d, %d, %d) = %v, %d, want %v", c.s, c.kind, c.encoding, len(c.l), l, e, c.l)
		}
	}
}

func TestEncodeErrors(t *testing.T) {
	over := api.Value{S: strings.Repeat("t", api.MaxText+1)}
	bad := api.Value{Null: true, N: 1, S: "s"}
	long := slices.Repeat([]api.Value{bad}, api.MaxBand+1)
	for _, c := range []struct {
		l              []api.Value
		kind, encoding int
		e              api.Errno
	}{
		{long, 0, -1, api.ErrLong}, {long, api.Int, api.Plain, api.ErrLong}, {make([]api.Value, api.MaxBand+1), api.Int, api.Runs, api.ErrLong}, {make([]api.Value, api.MaxBand+1), api.Bool, api.Runs, api.ErrLong}, {make([]api.Value, api.MaxBand), api.Bool, api.Runs, api.OK},
		{[]api.Value{bad}, 0, api.Plain, api.ErrOptions}, {[]api.Value{bad}, 4, api.Dict, api.ErrOptions}, {nil, math.MinInt, api.Plain, api.ErrOptions}, {nil, math.MaxInt, api.Plain, api.ErrOptions},
		{[]api.Value{bad}, api.Int, api.Runs, api.ErrOptions}, {nil, api.Bool, api.Delta, api.ErrOptions}, {nil, api.Text, api.Delta, api.ErrOptions}, {nil, api.Text, api.Runs, api.ErrOptions}, {nil, api.Int, -1, api.ErrOptions}, {nil, api.Text, 4, api.ErrOptions}, {nil, api.Bool, math.MaxInt, api.ErrOptions}, {nil, api.Bool, math.MinInt, api.ErrOptions},
		{[]api.Value{{Null: true, N: 1}}, api.Int, api.Delta, api.ErrTable}, {[]api.Value{{Null: true, S: "s"}}, api.Text, api.Dict, api.ErrTable}, {[]api.Value{{}, {S: "s"}}, api.Int, api.Plain, api.ErrTable}, {numbers(0, 1, 2), api.Bool, api.Runs, api.ErrTable}, {numbers(-1), api.Bool, api.Plain, api.ErrTable}, {[]api.Value{{N: 1, S: "s"}}, api.Bool, api.Dict, api.ErrTable}, {numbers(1), api.Text, api.Plain, api.ErrTable}, {[]api.Value{over}, api.Text, api.Plain, api.ErrTable}, {[]api.Value{over}, api.Text, api.Dict, api.ErrTable},
	} {
		if s, e := Encode(c.l, c.kind, c.encoding); e != c.e || (e != api.OK && s != "") {
			t.Errorf("P3, P5: Encode(%d values, %d, %d) = %q, %d, want %d", len(c.l), c.kind, c.encoding, s, e, c.e)
		}
	}
}
