package codec

import (
	"math"
	"math/rand"
	"slices"
	"testing"

	"strata/api"
)

// byBits packs bit by bit, as P4 tells it.
func byBits(l []int, width int) string {
	b := make([]byte, (len(l)*width+7)/8)
	for i, n := range l {
		for k := range width {
			at := i*width + k
			b[at/8] |= byte(n>>k&1) << (at % 8)
		}
	}
	return string(b)
}

func TestPackExamples(t *testing.T) {
	for _, c := range []struct {
		l     []int
		width int
		s     string
	}{
		{[]int{1, 2, 3}, 2, "\x39"}, {[]int{5}, 3, "\x05"}, {nil, 0, ""}, {nil, 16, ""}, {[]int{0, 0, 0}, 0, ""}, {[]int{0xabcd}, 16, "\xcd\xab"}, {[]int{0x1ff, 0}, 9, "\xff\x01\x00"}, {[]int{1, 0x7fff}, 15, "\x01\x80\xff\x3f"},
		{make([]int, api.MaxBand), 0, ""}, {slices.Repeat([]int{65535}, api.MaxBand), 16, string(slices.Repeat([]byte{255}, 200))},
	} {
		if s, e := Pack(c.l, c.width); s != c.s || e != api.OK {
			t.Errorf("P4: Pack(%v, %d) = %q, %d, want %q", c.l, c.width, s, e, c.s)
		}
		if l, e := Unpack(c.s, c.width, len(c.l)); !slices.Equal(l, c.l) || e != api.OK {
			t.Errorf("P4: Unpack(%q, %d, %d) = %v, %d, want %v", c.s, c.width, len(c.l), l, e, c.l)
		}
	}
}

func TestPackEveryWidthAndCount(t *testing.T) {
	r := rand.New(rand.NewSource(4))
	for width := range 17 {
		for count := range api.MaxBand + 1 {
			l := make([]int, count)
			for i := range l {
				l[i] = r.Intn(1 << width)
			}
			want := byBits(l, width)
			if s, e := Pack(l, width); s != want || e != api.OK {
				t.Fatalf("P4: Pack(%v, %d) = %q, %d, want %q", l, width, s, e, want)
			}
			if back, e := Unpack(want, width, count); !slices.Equal(back, l) || e != api.OK {
				t.Fatalf("P4: Unpack(%q, %d, %d) = %v, %d, want %v", want, width, count, back, e, l)
			}
		}
	}
}

func TestPackErrors(t *testing.T) {
	long := slices.Repeat([]int{-1}, api.MaxBand+1)
	for _, c := range []struct {
		l     []int
		width int
		e     api.Errno
	}{
		{long, 17, api.ErrLong}, {long, 1, api.ErrLong}, {make([]int, api.MaxBand+1), 0, api.ErrLong}, {make([]int, api.MaxBand), 1, api.OK},
		{[]int{-1}, 17, api.ErrOptions}, {nil, -1, api.ErrOptions}, {nil, 17, api.ErrOptions}, {nil, math.MaxInt, api.ErrOptions}, {nil, math.MinInt, api.ErrOptions},
		{[]int{-1}, 16, api.ErrTable}, {[]int{-1}, 0, api.ErrTable}, {[]int{1}, 0, api.ErrTable}, {[]int{0, 2}, 1, api.ErrTable}, {[]int{65536}, 16, api.ErrTable}, {[]int{65535}, 16, api.OK}, {[]int{math.MaxInt}, 8, api.ErrTable}, {[]int{math.MinInt}, 8, api.ErrTable},
	} {
		if s, e := Pack(c.l, c.width); e != c.e || (e != api.OK && s != "") {
			t.Errorf("P3, P4: Pack(%d numbers, %d) = %q, %d, want %d", len(c.l), c.width, s, e, c.e)
		}
	}
}

func TestUnpackErrors(t *testing.T) {
	for _, c := range []struct {
		s            string
		width, count int
		e            api.Errno
	}{
		{"x", 17, api.MaxBand + 1, api.ErrLong}, {"x", 17, -1, api.ErrLong}, {"", 0, math.MaxInt, api.ErrLong}, {"", 0, math.MinInt, api.ErrLong}, {"", 0, api.MaxBand, api.OK}, {"", 0, 0, api.OK},
		{"x", 17, 1, api.ErrOptions}, {"x", -1, 1, api.ErrOptions}, {"", math.MaxInt, 0, api.ErrOptions}, {"", math.MinInt, api.MaxBand, api.ErrOptions},
		{"\x40", 2, 3, api.ErrBytes}, {"\x80", 2, 3, api.ErrBytes}, {"\x3f", 2, 3, api.OK}, {"", 2, 3, api.ErrBytes}, {"\x39\x00", 2, 3, api.ErrBytes}, {"\x00", 0, 1, api.ErrBytes}, {"\x00", 5, 0, api.ErrBytes}, {"\x00", 16, 1, api.ErrBytes}, {"\x00\x00", 16, 1, api.OK}, {"\x00\x00\x00", 16, 1, api.ErrBytes}, {"\x01\x02", 9, 1, api.ErrBytes}, {"\x01\x01", 9, 1, api.OK},
	} {
		if l, e := Unpack(c.s, c.width, c.count); e != c.e || (e != api.OK && l != nil) {
			t.Errorf("P3, P4: Unpack(%q, %d, %d) = %v, %d, want %d", c.s, c.width, c.count, l, e, c.e)
		}
	}
}

// TestUnpackEveryShortText: what is unpacked is packed to the same, and nothing that Pack gives is refused.
func TestUnpackEveryShortText(t *testing.T) {
	for word := range 1 << 16 {
		s := string([]byte{byte(word), byte(word >> 8)})
		for width := 1; width <= 16; width++ {
			count := 16 / width
			fits := word>>(width*count) == 0 && width*count > 8
			l, e := Unpack(s, width, count)
			if (e == api.OK) != fits || (e != api.OK && (e != api.ErrBytes || l != nil)) {
				t.Fatalf("P4: Unpack(%q, %d, %d) = %v, %d", s, width, count, l, e)
			}
			if e == api.OK && byBits(l, width) != s {
				t.Fatalf("P4: Unpack(%q, %d, %d) = %v", s, width, count, l)
			}
		}
	}
}
