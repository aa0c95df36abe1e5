package strata

import (
	"math/rand"
	"slices"
	"testing"

	"strata/api"
	"strata/layout"
	"strata/values"
)

// TestWrittenIsRead: Scan answers just the values of the table, also when it skips.
func TestWrittenIsRead(t *testing.T) {
	r := rand.New(rand.NewSource(12))
	for range 3000 {
		table, o := drawTable(r)
		s := write(t, table, o)
		holdFile(t, "drawn", s, table.Columns, len(table.Rows))
		for range 4 {
			columns, ranges := drawQuestion(r, table)
			want := expected(table, columns, ranges)
			holdScan(t, s, columns, ranges, false, api.OK, want...)
			holdScan(t, s, columns, ranges, true, api.OK, want...)
		}
		if t.Failed() {
			t.Fatalf("of the table %v, %v", table, o)
		}
	}
}

// isWithin tells whether some rows come, in their order, among others.
func isWithin(some [][]api.Value, all [][]api.Value) bool {
	for _, l := range all {
		if len(some) > 0 && slices.Equal(some[0], l) {
			some = some[1:]
		}
	}
	return len(some) == 0
}

// spoil changes a byte, often into one that is common.
func spoil(r *rand.Rand, s string) string {
	at := r.Intn(len(s))
	n := r.Intn(256)
	if r.Intn(2) == 0 {
		n = r.Intn(10)
	}
	return s[:at] + octets(n) + s[at+1:]
}

// TestSpoiled: whatever is read, values are of the kinds that Columns tells, and skip gives no other row.
func TestSpoiled(t *testing.T) {
	r := rand.New(rand.NewSource(13))
	read := 0
	for range 10000 {
		table, o := drawTable(r)
		s := spoil(r, write(t, table, o))
		columns, _, e := Columns(s)
		if e != api.OK {
			holdNoFile(t, "spoiled", s)
			continue
		}
		asked, ranges := drawQuestion(r, api.Table{Columns: columns})
		whole, e := Scan(s, asked, ranges, false)
		some, f := Scan(s, asked, ranges, true)
		if e == api.OK {
			read++
			if f != api.OK || !isWithin(some, whole) {
				t.Fatalf("P12: Scan(%q, %v, %v) = %v, but with skip %v, %d", s, asked, ranges, whole, some, f)
			}
		}
		for _, one := range take(open(t, s, asked, ranges, false), -1) {
			holdKinds(t, one.row, asked, columns)
		}
		for _, l := range slices.Concat(whole, some) {
			holdKinds(t, l, asked, columns)
		}
	}
	if read < 1000 {
		t.Errorf("only %d spoiled texts were read", read)
	}
}

func holdKinds(t *testing.T, l []api.Value, asked []int, columns []api.Column) {
	t.Helper()
	if len(l) != len(asked) {
		t.Fatalf("P10: the row %v of the columns %v", l, asked)
	}
	for i, v := range l {
		if !values.MayBe(v, columns[asked[i]].Kind) {
			t.Fatalf("P12: %v as a value of the column %v", v, columns[asked[i]])
		}
	}
}

// drawBounds draws some that need not be true.
func drawBounds(r *rand.Rand, kind int) layout.Bounds {
	a, b := drawValue(r, kind), drawValue(r, kind)
	if a.Null || b.Null {
		return layout.Bounds{}
	}
	if less(b, a) {
		a, b = b, a
	}
	return layout.Bounds{There: true, Least: a, Greatest: b}
}

// isSkipped is P10's rule once more.
func isSkipped(band layout.Band, ranges []api.Range) bool {
	return slices.ContainsFunc(ranges, func(x api.Range) bool {
		b := band.Chunks[x.Column].Bounds
		low := !x.Low.Null && less(b.Greatest, x.Low)
		high := !x.High.Null && less(x.High, b.Least)
		return b.There && (low || high)
	})
}

// TestDrawnBounds: bounds that are not true take away just the rows of the bands that are skipped.
func TestDrawnBounds(t *testing.T) {
	r := rand.New(rand.NewSource(15))
	fewer := 0
	for range 3000 {
		table, o := drawTable(r)
		f, _ := layout.Part(write(t, table, o))
		for _, band := range f.Bands {
			for k := range band.Chunks {
				band.Chunks[k].Bounds = drawBounds(r, f.Columns[k].Kind)
			}
		}
		s := layout.Join(f)
		columns, ranges := drawQuestion(r, table)
		left := api.Table{Columns: table.Columns}
		for i, band := range f.Bands {
			if !isSkipped(band, ranges) {
				begin := i * o.Band
				left.Rows = append(left.Rows, table.Rows[begin:begin+band.Rows]...)
			}
		}
		whole, some := expected(table, columns, ranges), expected(left, columns, ranges)
		holdScan(t, s, columns, ranges, false, api.OK, whole...)
		holdScan(t, s, columns, ranges, true, api.OK, some...)
		if len(some) < len(whole) {
			fewer++
		}
	}
	if fewer < 100 {
		t.Errorf("only %d files gave fewer rows", fewer)
	}
}

// drawFile makes of a file one with chunks that may be bad, and tells which are, and with bounds (if there are to be some) that need not be true.
func drawFile(r *rand.Rand, s string, bounds bool) (layout.File, [][]bool) {
	f, _ := layout.Part(s)
	bad := make([][]bool, len(f.Bands))
	for i, band := range f.Bands {
		bad[i] = make([]bool, len(band.Chunks))
		for k := range band.Chunks {
			if bounds {
				band.Chunks[k].Bounds = drawBounds(r, f.Columns[k].Kind)
			}
			if r.Intn(12) == 0 {
				bad[i][k] = true
				band.Chunks[k].Text += "x"
			}
		}
	}
	return f, bad
}

// step is a row that is given, and how many bands have been decoded by then.
type step struct {
	numbered
	bands int
}

// ranging answers what the document says of a ranging that is not stopped: its rows, and how it ends.
func ranging(t api.Table, f layout.File, bad [][]bool, columns []int, ranges []api.Range, skip bool) (steps []step, bands int, e api.Errno) {
	first := 0
	for i, band := range f.Bands {
		rows := t.Rows[first : first+band.Rows]
		first += band.Rows
		if skip && isSkipped(band, ranges) {
			continue
		}
		bands++
		for k := range bad[i] {
			inRange := func(x api.Range) bool { return x.Column == k }
			if bad[i][k] && (slices.Contains(columns, k) || slices.ContainsFunc(ranges, inRange)) {
				return steps, bands, api.ErrBytes
			}
		}
		for place, l := range rows {
			one := expected(api.Table{Columns: t.Columns, Rows: [][]api.Value{l}}, columns, ranges)
			if len(one) == 1 {
				steps = append(steps, step{numbered{first - band.Rows + place, one[0]}, bands})
			}
		}
	}
	return steps, bands, api.OK
}

// TestDrawnRangings: each one that is drawn gives what the document says, wherever it is stopped, in any order.
func TestDrawnRangings(t *testing.T) {
	r := rand.New(rand.NewSource(16))
	failed, early := 0, 0
	for range 1500 {
		table, o := drawTable(r)
		f, bad := drawFile(r, write(t, table, o), o.Bounds)
		columns, ranges := drawQuestion(r, table)
		skip := r.Intn(2) == 0
		c := open(t, layout.Join(f), columns, ranges, skip)
		steps, bands, e := ranging(table, f, bad, columns, ranges, skip)
		var rows []numbered
		for _, one := range steps {
			rows = append(rows, one.numbered)
		}
		for _, most := range append(r.Perm(len(steps)+1), -1, len(steps)+1) {
			if most < 1 || most > len(steps) {
				holdRows(t, c, most, e, bands, rows...)
				continue
			}
			holdRows(t, c, most, api.OK, steps[most-1].bands, rows[:most]...)
			early++
		}
		if e != api.OK {
			failed++
		}
		if t.Failed() {
			t.Fatalf("of the table %v, %v, the columns %v, the ranges %v, skip %v", table, o, columns, ranges, skip)
		}
	}
	if failed < 200 || early < 2000 {
		t.Errorf("only %d rangings met a bad band, and %d were stopped", failed, early)
	}
}

// TestAnyText: every call ends with an error or without, of texts that are close to files.
func TestAnyText(t *testing.T) {
	r := rand.New(rand.NewSource(14))
	for range 100000 {
		b := make([]byte, r.Intn(24))
		for i := range b {
			b[i] = byte(r.Intn(4))
			if r.Intn(8) == 0 {
				b[i] = byte(r.Intn(256))
			}
		}
		s := wrap(string(b[:len(b)/4]), string(b[len(b)/4:]))
		columns, rows, e := Columns(s)
		if e == api.OK && (len(columns) == 0 || rows < 0) || e != api.OK && (columns != nil || rows != 0) {
			t.Fatalf("P9: Columns(%q) = %v, %d, %d", s, columns, rows, e)
		}
		if l, f := Scan(s, []int{0}, nil, true); f != api.OK && (f != api.ErrBytes || l != nil) || f == api.OK && e != api.OK {
			t.Fatalf("P10: Scan(%q) = %v, %d", s, l, f)
		}
		c, f := Open(s, []int{0}, nil, true)
		if f != e || (c != nil) != (e == api.OK) {
			t.Fatalf("P11: Open(%q) = %v, %d, where Columns tells %d", s, c, f, e)
		}
		if c != nil && len(take(c, -1)) > rows {
			t.Fatalf("P11: more rows of %q than Columns tells", s)
		}
	}
}
