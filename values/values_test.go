package values

import (
	"math"
	"strings"
	"testing"

	"strata/api"
	"strata/wire"
)

func TestHasEncoding(t *testing.T) {
	of := map[int][]int{api.Int: {api.Plain, api.Delta, api.Dict}, api.Bool: {api.Plain, api.Dict, api.Runs}, api.Text: {api.Plain, api.Dict}}
	for _, kind := range []int{math.MinInt, -1, 0, api.Int, api.Bool, api.Text, 4, math.MaxInt} {
		for _, encoding := range []int{math.MinInt, -1, api.Plain, api.Delta, api.Dict, api.Runs, 4, math.MaxInt} {
			want := false
			for _, known := range of[kind] {
				want = want || known == encoding
			}
			if HasEncoding(kind, encoding) != want {
				t.Errorf("HasEncoding(%d, %d) = %v", kind, encoding, !want)
			}
		}
	}
}

func TestMayBe(t *testing.T) {
	full, over := strings.Repeat("x", api.MaxText), strings.Repeat("x", api.MaxText+1)
	for _, c := range []struct {
		v                api.Value
		number, yes, str bool
	}{
		{api.Value{}, true, true, true},
		{api.Value{N: 1}, true, true, false},
		{api.Value{N: 2}, true, false, false},
		{api.Value{N: -1}, true, false, false},
		{api.Value{N: math.MinInt}, true, false, false},
		{api.Value{N: math.MaxInt}, true, false, false},
		{api.Value{S: "a"}, false, false, true},
		{api.Value{S: "\xff\x00"}, false, false, true},
		{api.Value{S: full}, false, false, true},
		{api.Value{S: over}, false, false, false},
		{api.Value{N: 1, S: "a"}, false, false, false},
		{api.Value{Null: true}, true, true, true},
		{api.Value{Null: true, N: 1}, false, false, false},
		{api.Value{Null: true, S: "a"}, false, false, false},
	} {
		if MayBe(c.v, api.Int) != c.number || MayBe(c.v, api.Bool) != c.yes || MayBe(c.v, api.Text) != c.str {
			t.Errorf("MayBe(%v) as Int, Bool, Text: want %v, %v, %v", c.v, c.number, c.yes, c.str)
		}
		if MayBe(c.v, 0) || MayBe(c.v, 4) {
			t.Errorf("MayBe(%v) of a kind that is none", c.v)
		}
	}
}

func TestCompare(t *testing.T) {
	numbers := []api.Value{{N: math.MinInt}, {N: -2}, {N: -1}, {N: 0}, {N: 1}, {N: 2}, {N: math.MaxInt}}
	texts := []api.Value{{S: ""}, {S: "\x00"}, {S: "A"}, {S: "a"}, {S: "a\x00"}, {S: "aa"}, {S: "ab"}, {S: "b"}, {S: "é"}, {S: "\xff"}}
	for _, l := range [][]api.Value{numbers, texts} {
		for i := range l {
			for j := range l {
				got := Compare(l[i], l[j])
				if (got < 0) != (i < j) || (got > 0) != (i > j) {
					t.Errorf("Compare(%v, %v) = %d", l[i], l[j], got)
				}
			}
		}
	}
}

func TestPlain(t *testing.T) {
	full := strings.Repeat("x", api.MaxText)
	for _, c := range []struct {
		v    api.Value
		kind int
		s    string
	}{
		{api.Value{N: 7}, api.Int, "\x0e"}, {api.Value{N: -65}, api.Int, "\x81\x01"},
		{api.Value{N: math.MinInt64}, api.Int, "\xff\xff\xff\xff\xff\xff\xff\xff\xff\x01"},
		{api.Value{N: 0}, api.Bool, "\x00"}, {api.Value{N: 1}, api.Bool, "\x01"},
		{api.Value{}, api.Text, "\x00"}, {api.Value{S: "ab"}, api.Text, "\x02ab"}, {api.Value{S: full}, api.Text, "\x20" + full},
	} {
		if s := string(AppendPlain([]byte("head"), c.v, c.kind)); s != "head"+c.s {
			t.Errorf("AppendPlain(%v, %d) = %q, want %q", c.v, c.kind, s, c.s)
		}
		r := wire.NewReader(c.s)
		if v := ReadPlain(r, c.kind); v != c.v {
			t.Errorf("ReadPlain(%q, %d) = %v, want %v", c.s, c.kind, v, c.v)
		}
		r.End()
	}
}

func TestPlainGivesUp(t *testing.T) {
	for _, c := range []struct {
		s    string
		kind int
	}{{"", api.Int}, {"\x80", api.Int}, {"\x80\x00", api.Int}, {"", api.Bool}, {"\x02", api.Bool}, {"", api.Text}, {"\x02a", api.Text}, {"\x21" + strings.Repeat("x", 33), api.Text}, {"\xff\xff\xff\xff\x07a", api.Text}, {"\x80\x80\x80\x80\x08a", api.Text}, {"\x81\x00a", api.Text}} {
		func() {
			defer func() {
				if _, ok := recover().(wire.Bad); !ok {
					t.Errorf("ReadPlain(%q, %d) did not give up", c.s, c.kind)
				}
			}()
			ReadPlain(wire.NewReader(c.s), c.kind)
		}()
	}
}
