package codec

import (
	"math"
	"math/rand"
	"slices"
	"strings"
	"testing"

	"strata/api"
	"strata/wire"
)

// encodings: each kind's encodings.
var encodings = [][2]int{
	{api.Int, api.Plain}, {api.Int, api.Delta}, {api.Int, api.Dict},
	{api.Bool, api.Plain}, {api.Bool, api.Dict}, {api.Bool, api.Runs},
	{api.Text, api.Plain}, {api.Text, api.Dict},
}

func TestDecodeErrorsAheadOfBytes(t *testing.T) {
	for _, c := range []struct {
		kind, encoding, count int
		e                     api.Errno
	}{
		{0, -1, api.MaxBand + 1, api.ErrLong}, {0, -1, -1, api.ErrLong}, {api.Int, api.Plain, math.MaxInt, api.ErrLong}, {api.Int, api.Plain, math.MinInt, api.ErrLong},
		{0, api.Plain, api.MaxBand, api.ErrOptions}, {4, api.Plain, 0, api.ErrOptions}, {api.Int, api.Runs, 1, api.ErrOptions}, {api.Bool, api.Delta, 1, api.ErrOptions}, {api.Text, api.Delta, 1, api.ErrOptions}, {api.Text, api.Runs, 1, api.ErrOptions}, {api.Int, -1, 1, api.ErrOptions}, {api.Int, 4, 1, api.ErrOptions}, {math.MinInt, math.MaxInt, 1, api.ErrOptions},
		{api.Int, api.Plain, api.MaxBand, api.ErrBytes}, {api.Int, api.Plain, 0, api.ErrBytes},
	} {
		if l, e := Decode("\xff", c.kind, c.encoding, c.count); e != c.e || l != nil {
			t.Errorf("P3, P6: Decode(255, %d, %d, %d) = %v, %d, want %d", c.kind, c.encoding, c.count, l, e, c.e)
		}
	}
}

func TestDecodeWrongBytes(t *testing.T) {
	over := "\x21" + strings.Repeat("t", api.MaxText+1)
	for _, c := range []struct {
		why            string
		s              string
		kind, encoding int
		count          int
	}{
		{"no levels", "", api.Int, api.Plain, 1},
		{"a byte too many, of no values", "\x00", api.Int, api.Plain, 0},
		{"levels of no values", "\x00\x01", api.Int, api.Plain, 0},
		{"an empty run", "\x00\x00\x01\x01\x02", api.Int, api.Plain, 1},
		{"an empty run behind", "\x01\x00\x00\x01", api.Int, api.Plain, 1},
		{"a run that could be longer", "\x01\x00\x01\x00", api.Int, api.Plain, 2},
		{"too long a run", "\x02\x00", api.Int, api.Plain, 1},
		{"a run of 2^31 - 1", "\xff\xff\xff\xff\x07\x00", api.Int, api.Plain, 1},
		{"a run of 2^31 + 1", "\x81\x80\x80\x80\x08\x00", api.Int, api.Plain, 1},
		{"a run of 2^64 - 1", nine + "\x01\x00", api.Int, api.Plain, 1},
		{"too few runs", "\x01\x00", api.Int, api.Plain, 2},
		{"a run without its byte", "\x01", api.Int, api.Plain, 1},
		{"a level that is none", "\x01\x02\x00", api.Int, api.Plain, 1},
		{"a run's length with a needless byte", "\x81\x00\x00", api.Int, api.Plain, 1},
		{"no value", "\x01\x01", api.Int, api.Plain, 1},
		{"a value of a Null", "\x01\x00\x00", api.Int, api.Plain, 1},
		{"a value too many", "\x01\x01\x0a\x00", api.Int, api.Plain, 1},
		{"a varint that is cut off", "\x01\x01\x80", api.Int, api.Plain, 1},
		{"a varint with a needless byte", "\x01\x01\x80\x00", api.Int, api.Plain, 1},
		{"a varint of 65 bits", "\x01\x01" + nine + "\x02", api.Int, api.Plain, 1},
		{"a varint of ten bytes that ends with 0", "\x01\x01" + nine + "\x00", api.Int, api.Plain, 1},
		{"a varint of eleven bytes", "\x01\x01" + nine + "\x81\x00", api.Int, api.Plain, 1},
		{"a difference of 65 bits", "\x02\x01\x02" + nine + "\x03", api.Int, api.Delta, 2},
		{"a difference too few", "\x02\x01\x02", api.Int, api.Delta, 2},
		{"a difference too many", "\x01\x01\x02\x02", api.Int, api.Delta, 1},
		{"a Bool that is none", "\x01\x01\x02", api.Bool, api.Plain, 1},
		{"a Bool too few", "\x02\x01\x01", api.Bool, api.Plain, 2},
		{"Bools' run that could be longer", "\x02\x01\x01\x01\x01\x01", api.Bool, api.Runs, 2},
		{"Bools' runs too few", "\x02\x01\x01\x01", api.Bool, api.Runs, 2},
		{"Bools' run too long", "\x02\x01\x03\x01", api.Bool, api.Runs, 2},
		{"Bools' run of Nulls", "\x02\x00\x02\x00", api.Bool, api.Runs, 2},
		{"Bools' run of 2", "\x02\x01\x02\x02", api.Bool, api.Runs, 2},
		{"too long a text", "\x01\x01" + over, api.Text, api.Plain, 1},
		{"too long a text in a dictionary", "\x01\x01\x01" + over, api.Text, api.Dict, 1},
		{"a text that is cut off", "\x01\x01\x02t", api.Text, api.Plain, 1},
		{"a text's length with a needless byte", "\x01\x01\x81\x00t", api.Text, api.Plain, 1},
		{"a text of 2^31 bytes", "\x01\x01\x80\x80\x80\x80\x08t", api.Text, api.Plain, 1},
		{"no dictionary, of no values", "", api.Text, api.Dict, 0},
		{"no dictionary, of Nulls", "\x01\x00", api.Text, api.Dict, 1},
		{"a dictionary of one value, of Nulls", "\x01\x00\x01\x0e", api.Int, api.Dict, 1},
		{"an empty dictionary of a value", "\x01\x01\x00", api.Int, api.Dict, 1},
		{"a dictionary of 2^31 - 1 values", "\x01\x01\xff\xff\xff\xff\x07\x0e", api.Int, api.Dict, 1},
		{"more different values than values", "\x01\x01\x02\x0e\x10\x00", api.Int, api.Dict, 1},
		{"a dictionary that is cut off", "\x02\x01\x02\x0e", api.Int, api.Dict, 2},
		{"a dictionary's size with a needless byte", "\x01\x01\x81\x00\x0e", api.Int, api.Dict, 1},
		{"a value twice in a dictionary", "\x02\x01\x02\x0e\x0e\x02", api.Int, api.Dict, 2},
		{"a text twice in a dictionary", "\x02\x01\x02\x01t\x01t\x02", api.Text, api.Dict, 2},
		{"a dictionary in another order", "\x02\x01\x02\x0e\x10\x01", api.Int, api.Dict, 2},
		{"a value of a dictionary that is not used", "\x02\x01\x02\x0e\x10\x00", api.Int, api.Dict, 2},
		{"the last value of a dictionary that is not used", "\x03\x01\x03\x0e\x10\x12\x04", api.Int, api.Dict, 3},
		{"a place ahead of its turn", "\x03\x01\x03\x0e\x10\x12\x18", api.Int, api.Dict, 3},
		{"a place behind the dictionary", "\x04\x01\x03\x0e\x10\x12\xe4", api.Int, api.Dict, 4},
		{"a bit left over behind the places", "\x02\x01\x02\x0e\x10\x06", api.Int, api.Dict, 2},
		{"no places", "\x02\x01\x02\x0e\x10", api.Int, api.Dict, 2},
		{"places of a dictionary of one value", "\x01\x01\x01\x0e\x00", api.Int, api.Dict, 1},
		{"a byte behind the places", "\x02\x01\x02\x0e\x10\x02\x00", api.Int, api.Dict, 2},
	} {
		if l, e := Decode(c.s, c.kind, c.encoding, c.count); e != api.ErrBytes || l != nil {
			t.Errorf("P6: %s: Decode(%q, %d, %d, %d) = %v, %d, want ErrBytes", c.why, c.s, c.kind, c.encoding, c.count, l, e)
		}
	}
}

func TestDecodeOtherCounts(t *testing.T) {
	for _, c := range columns() {
		for _, count := range []int{len(c.l) - 1, len(c.l) + 1} {
			want := api.ErrBytes
			if count < 0 || count > api.MaxBand {
				want = api.ErrLong
			}
			if l, e := Decode(c.s, c.kind, c.encoding, count); e != want || l != nil {
				t.Errorf("P6: Decode(%q, %d, %d, %d) = %v, %d, want %d", c.s, c.kind, c.encoding, count, l, e, want)
			}
		}
	}
}

func TestDecodeShorterAndLonger(t *testing.T) {
	for _, c := range columns() {
		wrong := []string{c.s + "\x00", c.s + "\x01", c.s + "\xff"}
		for cut := range len(c.s) {
			wrong = append(wrong, c.s[:cut])
		}
		for _, s := range wrong {
			if l, e := Decode(s, c.kind, c.encoding, len(c.l)); e != api.ErrBytes || l != nil {
				t.Errorf("P6: Decode(%q, %d, %d, %d) = %v, %d, want ErrBytes", s, c.kind, c.encoding, len(c.l), l, e)
			}
		}
	}
}

// holdDecoded fails unless s is refused, or is just what Encode gives for what comes out.
func holdDecoded(t *testing.T, s string, kind int, encoding int, count int) {
	t.Helper()
	l, e := Decode(s, kind, encoding, count)
	if e != api.OK {
		if e != api.ErrBytes || l != nil {
			t.Fatalf("P6: Decode(%q, %d, %d, %d) = %v, %d", s, kind, encoding, count, l, e)
		}
		return
	}
	if again, f := Encode(l, kind, encoding); len(l) != count || again != s || f != api.OK {
		t.Fatalf("P6: Decode(%q, %d, %d, %d) = %v; Encode of that: %q, %d", s, kind, encoding, count, l, again, f)
	}
}

func TestDecodeEveryShortText(t *testing.T) {
	letters := "\x00\x01\x02\x03\x80\xff"
	level := []string{""}
	for range 6 {
		var longer []string
		for _, s := range level {
			for i := range len(letters) {
				longer = append(longer, s+letters[i:i+1])
			}
		}
		for _, s := range longer {
			for _, k := range encodings {
				for count := range 4 {
					holdDecoded(t, s, k[0], k[1], count)
				}
			}
		}
		level = longer
	}
}

// draw draws values of a kind, often alike, now and then at the ends of what may be.
func draw(r *rand.Rand, kind int, count int) []api.Value {
	l := make([]api.Value, count)
	for i := range l {
		switch {
		case r.Intn(4) == 0:
			l[i] = null
		case i > 0 && r.Intn(3) == 0:
			l[i] = l[r.Intn(i)]
		case kind == api.Bool:
			l[i].N = r.Intn(2)
		case kind == api.Int:
			l[i].N = int(r.Uint64()) >> r.Intn(64)
		default:
			l[i].S = strings.Repeat(string(rune('a'+r.Intn(3))), r.Intn(api.MaxText+1))
		}
	}
	return l
}

func TestDrawnColumns(t *testing.T) {
	r := rand.New(rand.NewSource(6))
	for range 4000 {
		k := encodings[r.Intn(len(encodings))]
		l := draw(r, k[0], r.Intn(api.MaxBand+1))
		s, e := Encode(l, k[0], k[1])
		back, f := Decode(s, k[0], k[1], len(l))
		if e != api.OK || f != api.OK || !slices.Equal(back, l) {
			t.Fatalf("P6: %v (%d, %d): %q, %d; back: %v, %d", l, k[0], k[1], s, e, back, f)
		}
		for range 20 {
			holdDecoded(t, spoil(r, s), k[0], k[1], len(l))
		}
	}
}

// spoil changes a byte, takes one out, or puts one in.
func spoil(r *rand.Rand, s string) string {
	at := r.Intn(len(s) + 1)
	if at == len(s) || r.Intn(4) == 0 {
		return s[:at] + string([]byte{byte(r.Intn(256))}) + s[at:]
	}
	if r.Intn(4) == 0 {
		return s[:at] + s[at+1:]
	}
	b := []byte(s)
	b[at] ^= 1 << r.Intn(8)
	return string(b)
}

// TestNothingElsePanics: what reading gives up with, below the recover at the call, is wire.Bad alone.
func TestNothingElsePanics(t *testing.T) {
	r := rand.New(rand.NewSource(7))
	read := func(s string, kind int, encoding int, count int) {
		defer func() {
			if p := recover(); p != nil {
				if _, ok := p.(wire.Bad); !ok {
					t.Errorf("reading %q (%d, %d, %d) panics with %v", s, kind, encoding, count, p)
				}
			}
		}()
		readColumn(wire.NewReader(s), kind, encoding, count)
	}
	for range 4000 {
		k := encodings[r.Intn(len(encodings))]
		l := draw(r, k[0], r.Intn(20))
		s, _ := Encode(l, k[0], k[1])
		for range 20 {
			s = spoil(r, s)
			read(s, k[0], k[1], len(l))
		}
	}
}
