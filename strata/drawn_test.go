package strata

import (
	"math/rand"
	"slices"
	"testing"

	"strata/api"
	"strata/layout"
	"strata/values"
)

// TestWrittenIsRead: Scan answers just the values of the table, also when it skips.
func TestWrittenIsRead(t *testing.T) {
	r := rand.New(rand.NewSource(12))
	for range 3000 {
		table, o := drawTable(r)
		s := write(t, table, o)
		holdFile(t, "drawn", s, table.Columns, len(table.Rows))
		for range 4 {
			columns, ranges := drawQuestion(r, table)
			want := expected(table, columns, ranges)
			holdScan(t, s, columns, ranges, false, api.OK, want...)
			holdScan(t, s, columns, ranges, true, api.OK, want...)
		}
		if t.Failed() {
			t.Fatalf("of the table %v, %v", table, o)
		}
	}
}

// isWithin tells whether some rows come, in their order, among others.
func isWithin(some [][]api.Value, all [][]api.Value) bool {
	for _, l := range all {
		if len(some) > 0 && slices.Equal(some[0], l) {
			some = some[1:]
		}
	}
	return len(some) == 0
}

// spoil changes a byte, often into one that is common.
func spoil(r *rand.Rand, s string) string {
	at := r.Intn(len(s))
	n := r.Intn(256)
	if r.Intn(2) == 0 {
		n = r.Intn(10)
	}
	return s[:at] + octets(n) + s[at+1:]
}

// TestSpoiled: whatever is read, values are of the kinds that Columns tells, and skip gives no other row.
func TestSpoiled(t *testing.T) {
	r := rand.New(rand.NewSource(13))
	read := 0
	for range 10000 {
		table, o := drawTable(r)
		s := spoil(r, write(t, table, o))
		columns, _, e := Columns(s)
		if e != api.OK {
			holdNoFile(t, "spoiled", s)
			continue
		}
		asked, ranges := drawQuestion(r, api.Table{Columns: columns})
		whole, e := Scan(s, asked, ranges, false)
		some, f := Scan(s, asked, ranges, true)
		if e == api.OK {
			read++
			if f != api.OK || !isWithin(some, whole) {
				t.Fatalf("P12: Scan(%q, %v, %v) = %v, but with skip %v, %d", s, asked, ranges, whole, some, f)
			}
		}
		for _, l := range slices.Concat(whole, some) {
			holdKinds(t, l, asked, columns)
		}
	}
	if read < 1000 {
		t.Errorf("only %d spoiled texts were read", read)
	}
}

func holdKinds(t *testing.T, l []api.Value, asked []int, columns []api.Column) {
	t.Helper()
	if len(l) != len(asked) {
		t.Fatalf("P10: the row %v of the columns %v", l, asked)
	}
	for i, v := range l {
		if !values.MayBe(v, columns[asked[i]].Kind) {
			t.Fatalf("P12: %v as a value of the column %v", v, columns[asked[i]])
		}
	}
}

// drawBounds draws some that need not be true.
func drawBounds(r *rand.Rand, kind int) layout.Bounds {
	a, b := drawValue(r, kind), drawValue(r, kind)
	if a.Null || b.Null {
		return layout.Bounds{}
	}
	if less(b, a) {
		a, b = b, a
	}
	return layout.Bounds{There: true, Least: a, Greatest: b}
}

// isSkipped is P10's rule once more.
func isSkipped(band layout.Band, ranges []api.Range) bool {
	return slices.ContainsFunc(ranges, func(x api.Range) bool {
		b := band.Chunks[x.Column].Bounds
		low := !x.Low.Null && less(b.Greatest, x.Low)
		high := !x.High.Null && less(x.High, b.Least)
		return b.There && (low || high)
	})
}

// TestDrawnBounds: bounds that are not true take away just the rows of the bands that are skipped.
func TestDrawnBounds(t *testing.T) {
	r := rand.New(rand.NewSource(15))
	fewer := 0
	for range 3000 {
		table, o := drawTable(r)
		f, _ := layout.Part(write(t, table, o))
		for _, band := range f.Bands {
			for k := range band.Chunks {
				band.Chunks[k].Bounds = drawBounds(r, f.Columns[k].Kind)
			}
		}
		s := layout.Join(f)
		columns, ranges := drawQuestion(r, table)
		left := api.Table{Columns: table.Columns}
		for i, band := range f.Bands {
			if !isSkipped(band, ranges) {
				begin := i * o.Band
				left.Rows = append(left.Rows, table.Rows[begin:begin+band.Rows]...)
			}
		}
		whole, some := expected(table, columns, ranges), expected(left, columns, ranges)
		holdScan(t, s, columns, ranges, false, api.OK, whole...)
		holdScan(t, s, columns, ranges, true, api.OK, some...)
		if len(some) < len(whole) {
			fewer++
		}
	}
	if fewer < 100 {
		t.Errorf("only %d files gave fewer rows", fewer)
	}
}

// TestAnyText: every call ends with an error or without, of texts that are close to files.
func TestAnyText(t *testing.T) {
	r := rand.New(rand.NewSource(14))
	for range 100000 {
		b := make([]byte, r.Intn(24))
		for i := range b {
			b[i] = byte(r.Intn(4))
			if r.Intn(8) == 0 {
				b[i] = byte(r.Intn(256))
			}
		}
		s := wrap(string(b[:len(b)/4]), string(b[len(b)/4:]))
		columns, rows, e := Columns(s)
		if e == api.OK && (len(columns) == 0 || rows < 0) || e != api.OK && (columns != nil || rows != 0) {
			t.Fatalf("P9: Columns(%q) = %v, %d, %d", s, columns, rows, e)
		}
		if l, f := Scan(s, []int{0}, nil, true); f != api.OK && (f != api.ErrBytes || l != nil) || f == api.OK && e != api.OK {
			t.Fatalf("P10: Scan(%q) = %v, %d", s, l, f)
		}
	}
}
