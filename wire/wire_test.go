package wire

import (
	"math"
	"strings"
	"testing"
)

// fails tells whether read gives up, by panicking with Bad and nothing else.
func fails(t *testing.T, read func()) (failed bool) {
	t.Helper()
	defer func() {
		if r := recover(); r != nil {
			if _, ok := r.(Bad); !ok {
				t.Errorf("panicked with %v, want Bad", r)
			}
			failed = true
		}
	}()
	read()
	return false
}

const nine = "\xff\xff\xff\xff\xff\xff\xff\xff\xff"

var varints = []struct {
	n uint64
	s string
}{
	{0, "\x00"}, {1, "\x01"}, {127, "\x7f"}, {128, "\x80\x01"}, {300, "\xac\x02"}, {1<<14 - 1, "\xff\x7f"}, {1 << 14, "\x80\x80\x01"},
	{1<<31 - 1, "\xff\xff\xff\xff\x07"}, {1 << 31, "\x80\x80\x80\x80\x08"},
	{1<<63 - 1, nine[:8] + "\x7f"}, {1 << 63, strings.Repeat("\x80", 9) + "\x01"}, {math.MaxUint64, nine + "\x01"},
}

func TestVarints(t *testing.T) {
	for _, c := range varints {
		if s := string(AppendVarint([]byte("head"), c.n)); s != "head"+c.s {
			t.Errorf("AppendVarint(%d) = %q, want %q", c.n, s, c.s)
		}
		r := NewReader(c.s + "tail")
		if n := r.Varint(); n != c.n || r.Take(4) != "tail" {
			t.Errorf("Varint of %q = %d, want %d", c.s, n, c.n)
		}
		for cut := range len(c.s) {
			if !fails(t, func() { NewReader(c.s[:cut]).Varint() }) {
				t.Errorf("Varint of %q, which is cut off, was read", c.s[:cut])
			}
		}
	}
}

func TestVarintsWrittenOtherwise(t *testing.T) {
	for _, s := range []string{"\x80\x00", "\x81\x00", "\x80\x80\x00", nine + "\x00", nine + "\x02", nine + "\x03", nine + "\x7f", nine + "\x81\x00", nine + "\x80\x01", nine + "\xff\x01"} {
		if !fails(t, func() { NewReader(s).Varint() }) {
			t.Errorf("Varint of %q was read", s)
		}
	}
}

func TestNumbers(t *testing.T) {
	for _, c := range varints {
		if c.n >= 1<<31 {
			if !fails(t, func() { NewReader(c.s).Number() }) {
				t.Errorf("Number of %q, which is too great, was read", c.s)
			}
			continue
		}
		if s := string(AppendNumber(nil, int(c.n))); s != c.s {
			t.Errorf("AppendNumber(%d) = %q, want %q", c.n, s, c.s)
		}
		if n := NewReader(c.s).Number(); n != int(c.n) {
			t.Errorf("Number of %q = %d, want %d", c.s, n, c.n)
		}
	}
}

func TestZigzag(t *testing.T) {
	for _, c := range []struct {
		n int64
		z uint64
	}{{0, 0}, {-1, 1}, {1, 2}, {-2, 3}, {2, 4}, {63, 126}, {-64, 127}, {math.MaxInt64, math.MaxUint64 - 1}, {math.MinInt64, math.MaxUint64}} {
		if z := Zigzag(c.n); z != c.z {
			t.Errorf("Zigzag(%d) = %d, want %d", c.n, z, c.z)
		}
		if n := Unzigzag(c.z); n != c.n {
			t.Errorf("Unzigzag(%d) = %d, want %d", c.z, n, c.n)
		}
	}
}

func TestTaking(t *testing.T) {
	r := NewReader("\x00\x01\x02abc")
	if r.Bit() != 0 || r.Bit() != 1 {
		t.Error("Bit of 0 and 1 is not 0 and 1")
	}
	if !fails(t, func() { r.Bit() }) {
		t.Error("Bit of 2 was read")
	}
	if r.Take(0) != "" || r.Take(2) != "ab" || r.Byte() != 'c' {
		t.Error("Take and Byte do not give what stands there")
	}
	r.End()
	for name, read := range map[string]func(){
		"Byte at the end":         func() { r.Byte() },
		"Take behind the end":     func() { NewReader("ab").Take(3) },
		"Take of less than none":  func() { NewReader("ab").Take(-1) },
		"Take of ever so many":    func() { NewReader("ab").Take(math.MaxInt) },
		"End ahead of a byte":     func() { NewReader("a").End() },
		"GiveUp at the beginning": func() { NewReader("a").GiveUp() },
	} {
		if !fails(t, read) {
			t.Errorf("%s: did not give up", name)
		}
	}
}

func TestReadWhole(t *testing.T) {
	all := func(r *Reader) string { return r.Take(2) }
	if s, ok := ReadWhole("ab", all); s != "ab" || !ok {
		t.Errorf("ReadWhole = %q, %v", s, ok)
	}
	for _, text := range []string{"", "a", "abc"} {
		if s, ok := ReadWhole(text, all); s != "" || ok {
			t.Errorf("ReadWhole of %q, which is not two bytes, = %q, %v", text, s, ok)
		}
	}
	if s, ok := ReadWhole("", func(r *Reader) string { panic("of another kind") }); s != "" || ok {
		t.Errorf("ReadWhole of what panics = %q, %v", s, ok)
	}
}
