package strata

import (
	"iter"
	"math"
	"slices"
	"strings"
	"testing"

	"strata/api"
	"strata/layout"
)

// numbered is a row as yield is given it.
type numbered struct {
	number int
	row    []api.Value
}

func at(number int, l ...api.Value) numbered { return numbered{number, l} }

func alike(a, b numbered) bool { return a.number == b.number && slices.Equal(a.row, b.row) }

func open(t *testing.T, s string, columns []int, ranges []api.Range, skip bool) *Cursor {
	t.Helper()
	c, e := Open(s, columns, ranges, skip)
	if c == nil || e != api.OK {
		t.Fatalf("P11: Open(.., %v, %v, %v) = %v, %d", columns, ranges, skip, c, e)
	}
	return c
}

// take ranges until so many rows have come; to the end, if it is -1.
func take(c *Cursor, most int) []numbered {
	var l []numbered
	for number, row := range c.Rows() {
		l = append(l, numbered{number, row})
		if len(l) == most {
			break
		}
	}
	return l
}

// holdEnd fails unless the last ranging has ended so.
func holdEnd(t *testing.T, c *Cursor, e api.Errno, bands int) {
	t.Helper()
	if c.Err() != e || c.Bands() != bands {
		t.Errorf("P11: Err = %d, Bands = %d, want %d, %d", c.Err(), c.Bands(), e, bands)
	}
}

// holdRows fails unless a ranging that is stopped at so many rows gives these, and ends so.
func holdRows(t *testing.T, c *Cursor, most int, e api.Errno, bands int, want ...numbered) {
	t.Helper()
	if l := take(c, most); !slices.EqualFunc(l, want, alike) {
		t.Errorf("P11: up to %d rows: %v, want %v", most, l, want)
	}
	holdEnd(t, c, e, bands)
}

// counting is a table of n, whether it is odd, and a text of n letters, for n from 0 on.
func counting(rows int) api.Table {
	t := api.Table{Columns: []api.Column{{Name: "n", Kind: api.Int}, {Name: "odd", Kind: api.Bool}, {Name: "t", Kind: api.Text}}}
	for n := range rows {
		t.Rows = append(t.Rows, row(num(n), num(n%2), word(strings.Repeat("a", n))))
	}
	return t
}

// countingFile: bands of three rows, the last one of one: 0 1 2, 3 4 5, 6 7 8, 9.
func countingFile(t *testing.T) string {
	t.Helper()
	return write(t, counting(10), api.Options{Band: 3, Encodings: []int{api.Delta, api.Runs, api.Dict}, Bounds: true})
}

// numbersFrom are the rows of the column n of counting, from one number to another.
func numbersFrom(first int, last int) []numbered {
	var l []numbered
	for n := first; n <= last; n++ {
		l = append(l, at(n, num(n)))
	}
	return l
}

// spoilChunk makes a chunk's first run one of no values, which is never written.
func spoilChunk(t *testing.T, s string, band int, column int) string {
	t.Helper()
	f, ok := layout.Part(s)
	if !ok {
		t.Fatalf("P9: %q is no file", s)
	}
	begin := len("STRA")
	for i, b := range f.Bands {
		for k, chunk := range b.Chunks {
			if i == band && k == column {
				return s[:begin] + octets(0) + s[begin+1:]
			}
			begin += len(chunk.Text)
		}
	}
	t.Fatalf("no band %d with a column %d", band, column)
	return ""
}

func TestCursorExample(t *testing.T) {
	s := write(t, example, exampleOptions)
	for _, skip := range both {
		holdRows(t, open(t, s, []int{0, 0}, nil, skip), -1, api.OK, 2, at(0, num(7), num(7)), at(1, null, null))
		holdRows(t, open(t, s, []int{0, 0}, []api.Range{from(0, num(7), num(9))}, skip), -1, api.OK, 2, at(0, num(7), num(7)))
	}
	holdRows(t, open(t, s, []int{0}, []api.Range{from(0, num(8), null)}, false), -1, api.OK, 2)
	holdRows(t, open(t, s, []int{0}, []api.Range{from(0, num(8), null)}, true), -1, api.OK, 1)
}

func TestCursorEncodings(t *testing.T) {
	for _, encodings := range [][]int{{api.Plain, api.Plain, api.Plain}, {api.Delta, api.Runs, api.Dict}, {api.Dict, api.Dict, api.Plain}} {
		for band := 1; band <= 6; band++ {
			s := write(t, mixed, api.Options{Band: band, Encodings: encodings, Bounds: true})
			bands := (len(mixed.Rows) + band - 1) / band
			for _, skip := range both {
				var want []numbered
				for n, l := range mixed.Rows {
					want = append(want, at(n, l[2], l[0], l[1], l[2]))
				}
				holdRows(t, open(t, s, []int{2, 0, 1, 2}, nil, skip), -1, api.OK, bands, want...)
			}
			holdRows(t, open(t, s, []int{1}, []api.Range{from(2, word(""), word("ab"))}, false), -1, api.OK, bands, at(1, num(0)), at(4, null))
		}
	}
}

// TestNumbers: rows that do not lie in the ranges, and bands that are skipped, count for the numbers.
func TestNumbers(t *testing.T) {
	s := countingFile(t)
	for _, c := range []struct {
		ranges         []api.Range
		want           []numbered
		bands, skipped int // decoded, and how many of them bounds show to be needless
	}{
		{nil, numbersFrom(0, 9), 4, 0},
		{[]api.Range{from(0, null, null)}, numbersFrom(0, 9), 4, 0},
		{[]api.Range{from(0, num(4), num(7))}, numbersFrom(4, 7), 4, 2},
		{[]api.Range{from(0, num(5), num(6))}, numbersFrom(5, 6), 4, 2},
		{[]api.Range{from(0, num(6), null)}, numbersFrom(6, 9), 4, 2},
		{[]api.Range{from(0, num(9), null)}, numbersFrom(9, 9), 4, 3},
		{[]api.Range{from(0, null, num(0))}, numbersFrom(0, 0), 4, 3},
		{[]api.Range{from(0, num(10), null)}, nil, 4, 4},
		{[]api.Range{from(0, num(7), num(4))}, nil, 4, 4},
		{[]api.Range{from(0, num(5), num(4))}, nil, 4, 3},
		{[]api.Range{from(1, num(1), null)}, []numbered{at(1, num(1)), at(3, num(3)), at(5, num(5)), at(7, num(7)), at(9, num(9))}, 4, 0},
		{[]api.Range{from(1, num(1), null), from(0, num(4), null), from(2, null, word("aaaaaaaa"))}, []numbered{at(5, num(5)), at(7, num(7))}, 4, 2},
	} {
		holdRows(t, open(t, s, []int{0}, c.ranges, false), -1, api.OK, c.bands, c.want...)
		holdRows(t, open(t, s, []int{0}, c.ranges, true), -1, api.OK, c.bands-c.skipped, c.want...)
	}
}

// TestStopped: stopped at each row, ahead of the band that comes next.
func TestStopped(t *testing.T) {
	s := countingFile(t)
	for _, skip := range both {
		c := open(t, s, []int{0}, nil, skip)
		for number := range 10 {
			holdRows(t, c, number+1, api.OK, number/3+1, numbersFrom(0, number)...)
		}
		holdRows(t, c, 11, api.OK, 4, numbersFrom(0, 9)...)
		holdRows(t, c, 1, api.OK, 1, numbersFrom(0, 0)...)
	}
	ranges := []api.Range{from(0, num(5), num(9))}
	for most, bands := range map[int]int{1: 1, 2: 2, 3: 2, 4: 2, 5: 3, 6: 3, -1: 3} {
		want := numbersFrom(5, 9)
		if most > 0 {
			want = want[:min(most, 5)]
		}
		holdRows(t, open(t, s, []int{0}, ranges, true), most, api.OK, bands, want...)
		// The band of 0, 1 and 2 has no row for yield, but is decoded.
		holdRows(t, open(t, s, []int{0}, ranges, false), most, api.OK, bands+1, want...)
	}
	// The bands behind the last row that lies in the ranges are decoded, unless yield stops there.
	early := []api.Range{from(0, null, num(1))}
	holdRows(t, open(t, s, []int{0}, early, false), 2, api.OK, 1, numbersFrom(0, 1)...)
	holdRows(t, open(t, s, []int{0}, early, false), 3, api.OK, 4, numbersFrom(0, 1)...)
	holdRows(t, open(t, s, []int{0}, early, true), 3, api.OK, 1, numbersFrom(0, 1)...)
}

// TestYieldIsNotCalledAgain, once it has answered false; called by hand, without a range.
func TestYieldIsNotCalledAgain(t *testing.T) {
	c := open(t, countingFile(t), []int{0}, nil, false)
	rows := c.Rows()
	for stop := range 11 {
		calls := 0
		rows(func(number int, l []api.Value) bool {
			if number != calls || !slices.Equal(l, row(num(number))) {
				t.Errorf("P11: the call %d is given %d, %v", calls, number, l)
			}
			calls++
			return number != stop
		})
		if calls != min(stop+1, 10) {
			t.Errorf("P11: stopped at the row %d: %d calls", stop, calls)
		}
		holdEnd(t, c, api.OK, min(stop/3+1, 4))
	}
}

// firstAbove leaves the ranging by a return, and goes on by continue.
func firstAbove(c *Cursor, n int) int {
	for number, l := range c.Rows() {
		if l[0].N <= n {
			continue
		}
		return number
	}
	return -1
}

func TestLeftByReturn(t *testing.T) {
	c := open(t, countingFile(t), []int{0}, nil, false)
	for n := -1; n < 9; n++ {
		if number := firstAbove(c, n); number != n+1 {
			t.Errorf("P11: the first row above %d is %d", n, number)
		}
		holdEnd(t, c, api.OK, (n+1)/3+1)
	}
	if number := firstAbove(c, 9); number != -1 {
		t.Errorf("P11: the first row above 9 is %d", number)
	}
	holdEnd(t, c, api.OK, 4)
}

// TestErrAndBands: ahead of the first ranging, within one, and behind each.
func TestErrAndBands(t *testing.T) {
	s := countingFile(t)
	c := open(t, s, []int{0}, nil, false)
	holdEnd(t, c, api.OK, 0)
	for range c.Rows() {
		holdEnd(t, c, api.OK, 0)
	}
	holdEnd(t, c, api.OK, 4)
	for number := range c.Rows() {
		holdEnd(t, c, api.OK, 4)
		if number == 3 {
			break
		}
	}
	holdEnd(t, c, api.OK, 2)
	// What is not ranged over is no ranging.
	rows := c.Rows()
	c.Rows()
	holdEnd(t, c, api.OK, 2)
	for range rows {
		holdEnd(t, c, api.OK, 2)
		break
	}
	holdEnd(t, c, api.OK, 1)

	c = open(t, spoilChunk(t, s, 2, 0), []int{0}, nil, false)
	for range c.Rows() {
		holdEnd(t, c, api.OK, 0)
	}
	holdEnd(t, c, api.ErrBytes, 3)
	for number := range c.Rows() {
		holdEnd(t, c, api.ErrBytes, 3)
		if number == 5 {
			break
		}
	}
	holdEnd(t, c, api.OK, 2)
	for range c.Rows() {
		holdEnd(t, c, api.OK, 2)
	}
	holdEnd(t, c, api.ErrBytes, 3)
}

// TestWithin: a ranging within another one, of the same cursor, is one by itself.
func TestWithin(t *testing.T) {
	c := open(t, countingFile(t), []int{0}, nil, false)
	for stop := range 10 {
		var outer []numbered
		for number, l := range c.Rows() {
			outer = append(outer, numbered{number, l})
			inner := 9 - number
			holdRows(t, c, inner+1, api.OK, inner/3+1, numbersFrom(0, inner)...)
			if number == stop {
				break
			}
		}
		if !slices.EqualFunc(outer, numbersFrom(0, stop), alike) {
			t.Errorf("P11: rangings within it change one up to %d: %v", stop, outer)
		}
		holdEnd(t, c, api.OK, stop/3+1)
	}
	// By one and the same function, three deep.
	rows := c.Rows()
	sum := 0
	for i := range rows {
		for j := range rows {
			for k := range rows {
				sum += 100*i + 10*j + k
			}
		}
	}
	if sum != 111*4500 {
		t.Errorf("P11: rangings three deep: %d, want %d", sum, 111*4500)
	}
}

// TestWithinABadFile: what a ranging within another one has met does not become the outer one's.
func TestWithinABadFile(t *testing.T) {
	c := open(t, spoilChunk(t, countingFile(t), 1, 0), []int{0}, nil, false)
	for number := range c.Rows() {
		holdRows(t, c, -1, api.ErrBytes, 2, numbersFrom(0, 2)...)
		if number == 2 {
			break
		}
	}
	holdEnd(t, c, api.OK, 1)
	for range c.Rows() {
		holdRows(t, c, 1, api.OK, 1, numbersFrom(0, 0)...)
	}
	holdEnd(t, c, api.ErrBytes, 2)
}

// TestSideBySide: rangings that take turns, of two cursors and of one.
func TestSideBySide(t *testing.T) {
	s := countingFile(t)
	one := open(t, s, []int{0}, nil, false)
	other := open(t, spoilChunk(t, s, 3, 0), []int{2}, []api.Range{from(0, num(5), null)}, true)
	nextOne, stopOne := iter.Pull2(one.Rows())
	nextOther, stopOther := iter.Pull2(other.Rows())
	nextThird, stopThird := iter.Pull2(one.Rows())
	for i := range 4 {
		if number, l, ok := nextOne(); !ok || !alike(numbered{number, l}, at(i, num(i))) {
			t.Errorf("P11: the row %d of one cursor: %d, %v, %v", i, number, l, ok)
		}
		if number, l, ok := nextOther(); !ok || !alike(numbered{number, l}, at(5+i, word("aaaaaaaa"[:5+i]))) {
			t.Errorf("P11: the row %d of the other cursor: %d, %v, %v", i, number, l, ok)
		}
		if number, l, ok := nextThird(); !ok || !alike(numbered{number, l}, at(i, num(i))) {
			t.Errorf("P11: the row %d of one cursor, ranged over twice: %d, %v, %v", i, number, l, ok)
		}
		holdEnd(t, one, api.OK, 0)
		holdEnd(t, other, api.OK, 0)
	}
	stopOne()
	holdEnd(t, one, api.OK, 2)
	holdEnd(t, other, api.OK, 0)
	if _, _, ok := nextOther(); ok {
		t.Error("P11: a row of a bad band")
	}
	holdEnd(t, one, api.OK, 2)
	holdEnd(t, other, api.ErrBytes, 3)
	for range 6 {
		nextThird()
	}
	holdEnd(t, one, api.OK, 2)
	if _, _, ok := nextThird(); ok {
		t.Error("P11: a row behind the last one")
	}
	holdEnd(t, one, api.OK, 4)
	stopOther()
	stopThird()
	holdEnd(t, one, api.OK, 4)
	holdEnd(t, other, api.ErrBytes, 3)
}

// TestNoColumns: a band counts as decoded also where nothing of it is asked for.
func TestNoColumns(t *testing.T) {
	s := countingFile(t)
	for _, skip := range both {
		for _, columns := range [][]int{nil, {}} {
			c := open(t, s, columns, nil, skip)
			holdRows(t, c, -1, api.OK, 4, at(0), at(1), at(2), at(3), at(4), at(5), at(6), at(7), at(8), at(9))
			holdRows(t, c, 4, api.OK, 2, at(0), at(1), at(2), at(3))
		}
	}
	holdRows(t, open(t, s, nil, []api.Range{from(0, num(4), num(5))}, false), -1, api.OK, 4, at(4), at(5))
	holdRows(t, open(t, s, nil, []api.Range{from(0, num(4), num(5))}, true), -1, api.OK, 1, at(4), at(5))
	// No chunk is looked into.
	nothing := wrap("\xff\xff\xff", head+octets(2, 1, 1, 0, 2, 2, 0))
	holdRows(t, open(t, nothing, nil, nil, false), -1, api.OK, 2, at(0), at(1), at(2))
	holdRows(t, open(t, nothing, []int{0}, nil, false), -1, api.ErrBytes, 1)
}

func TestNoBands(t *testing.T) {
	s := write(t, api.Table{Columns: mixed.Columns}, api.Options{Band: 5, Encodings: []int{0, 0, 0}, Bounds: true})
	for _, skip := range both {
		c := open(t, s, []int{0, 1, 2}, []api.Range{from(0, num(1), null)}, skip)
		holdEnd(t, c, api.OK, 0)
		holdRows(t, c, -1, api.OK, 0)
		holdRows(t, c, 1, api.OK, 0)
	}
}

func TestOpenErrors(t *testing.T) {
	s := countingFile(t)
	bad := spoilChunk(t, s, 0, 0)
	good, wrong := from(0, num(1), num(2)), from(0, word("a"), null)
	long := word(strings.Repeat("a", api.MaxText+1))
	for _, c := range []struct {
		why     string
		s       string
		columns []int
		ranges  []api.Range
		e       api.Errno
	}{
		{"no file", "", nil, nil, api.ErrBytes},
		{"no file, no column", s[1:], []int{9}, nil, api.ErrBytes},
		{"no file, no column, no range", s + "x", []int{-1}, []api.Range{wrong, from(-1, null, null)}, api.ErrBytes},
		{"the column 3", s, []int{0, 3}, nil, api.ErrColumn},
		{"the column -1", s, []int{-1, 0}, []api.Range{good}, api.ErrColumn},
		{"the greatest column", s, []int{math.MaxInt}, nil, api.ErrColumn},
		{"the least column", s, nil, []api.Range{from(math.MinInt, null, null)}, api.ErrColumn},
		{"a range of the column 3", s, []int{0}, []api.Range{good, from(3, null, null)}, api.ErrColumn},
		{"no column behind a wrong range", s, nil, []api.Range{wrong, from(-1, null, null)}, api.ErrColumn},
		{"no column, and a wrong range", s, []int{3}, []api.Range{wrong}, api.ErrColumn},
		{"a text of an Int", s, []int{0}, []api.Range{good, wrong}, api.ErrRange},
		{"2 of a Bool", s, nil, []api.Range{from(1, null, num(2))}, api.ErrRange},
		{"a number of a Text", s, nil, []api.Range{from(2, num(1), null)}, api.ErrRange},
		{"too long a text", s, nil, []api.Range{from(2, null, long)}, api.ErrRange},
		{"a Null with a number", s, nil, []api.Range{from(0, api.Value{Null: true, N: 1}, null)}, api.ErrRange},
		{"no column of a bad file", bad, []int{3}, nil, api.ErrColumn},
		{"a wrong range of a bad file", bad, nil, []api.Range{wrong}, api.ErrRange},
	} {
		for _, skip := range both {
			if cursor, e := Open(c.s, c.columns, c.ranges, skip); cursor != nil || e != c.e {
				t.Errorf("P11: %s: Open = %v, %d, want %d", c.why, cursor, e, c.e)
			}
			holdScan(t, c.s, c.columns, c.ranges, skip, c.e)
		}
	}
	// A chunk that is bad does not matter for Open.
	holdEnd(t, open(t, bad, []int{0, 1, 2}, []api.Range{good}, false), api.OK, 0)
}

// TestBadBand: rows come from the bands ahead of a bad one; Err and Bands tell of it only where it was met.
func TestBadBand(t *testing.T) {
	s := countingFile(t)
	for band := range 4 {
		for column := range 3 {
			bad := spoilChunk(t, s, band, column)
			ahead := numbersFrom(0, 3*band-1)
			for _, skip := range both {
				// All three columns are decoded: one that is asked for, two of ranges.
				ranges := []api.Range{from(1, num(0), null), from(2, word(""), null)}
				c := open(t, bad, []int{0}, ranges, skip)
				holdRows(t, c, -1, api.ErrBytes, band+1, ahead...)
				for most := 1; most <= len(ahead); most++ {
					holdRows(t, c, most, api.OK, (most-1)/3+1, ahead[:most]...)
				}
				holdRows(t, c, len(ahead)+1, api.ErrBytes, band+1, ahead...)
				holdScan(t, bad, []int{0}, ranges, skip, api.ErrBytes)
				// The columns that are not asked for do not matter.
				for asked := range 3 {
					c := open(t, bad, []int{asked, asked}, nil, skip)
					if l := take(c, -1); asked != column && len(l) != 10 || asked == column && len(l) != len(ahead) {
						t.Errorf("P11: the column %d, where %d is bad: %v", asked, column, l)
					}
					if asked == column {
						holdEnd(t, c, api.ErrBytes, band+1)
					} else {
						holdEnd(t, c, api.OK, 4)
					}
				}
				holdRows(t, open(t, bad, nil, nil, skip), 10, api.OK, 4, at(0), at(1), at(2), at(3), at(4), at(5), at(6), at(7), at(8), at(9))
			}
		}
	}
}

// TestBadBandsSkipped: a bad band that is skipped is not met, and no row of it is missed.
func TestBadBandsSkipped(t *testing.T) {
	s := countingFile(t)
	all := []int{0, 1, 2}
	for column := range 3 {
		for _, c := range []struct {
			bad    int
			ranges []api.Range
			e      api.Errno
			bands  int
			want   []numbered
		}{
			{0, []api.Range{from(0, num(3), null)}, api.OK, 3, numbersFrom(3, 9)},
			{0, []api.Range{from(0, num(2), null)}, api.ErrBytes, 1, nil},
			{1, []api.Range{from(0, num(6), null)}, api.OK, 2, numbersFrom(6, 9)},
			{1, []api.Range{from(0, num(5), null)}, api.ErrBytes, 1, nil},
			{1, []api.Range{from(0, null, num(2))}, api.OK, 1, numbersFrom(0, 2)},
			{1, []api.Range{from(0, null, num(3))}, api.ErrBytes, 2, numbersFrom(0, 2)},
			{3, []api.Range{from(0, num(4), num(8))}, api.OK, 2, numbersFrom(4, 8)},
			{3, []api.Range{from(0, num(4), num(9))}, api.ErrBytes, 3, numbersFrom(4, 8)},
			// Met although none of its rows could lie in the ranges: the bounds do not show it.
			{2, []api.Range{from(0, num(5), num(6)), from(1, num(1), null)}, api.ErrBytes, 2, numbersFrom(5, 5)},
		} {
			cursor := open(t, spoilChunk(t, s, c.bad, column), all, c.ranges, true)
			var want []numbered
			for _, one := range c.want {
				want = append(want, numbered{one.number, counting(10).Rows[one.number]})
			}
			holdRows(t, cursor, -1, c.e, c.bands, want...)
			// Without skip it is met, behind all bands ahead of it.
			cursor = open(t, spoilChunk(t, s, c.bad, column), all, c.ranges, false)
			if take(cursor, -1); cursor.Err() != api.ErrBytes || cursor.Bands() != c.bad+1 {
				t.Errorf("P11: bad in the band %d, without skip: Err = %d, Bands = %d", c.bad, cursor.Err(), cursor.Bands())
			}
		}
	}
}

// TestSeveralBad: the first bad band is the end, whatever is behind it, and however many of its chunks are bad.
func TestSeveralBad(t *testing.T) {
	s := countingFile(t)
	for _, column := range []int{0, 1, 2} {
		s = spoilChunk(t, s, 2, column)
	}
	s = spoilChunk(t, s, 3, 1)
	for _, columns := range [][]int{{0}, {0, 0}} {
		for _, ranges := range [][]api.Range{nil, {from(1, null, null)}, {from(2, null, null), from(1, null, null)}} {
			c := open(t, s, columns, ranges, true)
			if l := take(c, -1); len(l) != 6 {
				t.Errorf("P11: %d rows, want 6", len(l))
			}
			holdEnd(t, c, api.ErrBytes, 3)
		}
	}
	// Only the last band's bad chunk is met.
	skipping := open(t, s, []int{1}, []api.Range{from(0, num(9), null)}, true)
	holdRows(t, skipping, -1, api.ErrBytes, 1)
	holdRows(t, open(t, s, []int{0}, []api.Range{from(0, num(9), null)}, true), -1, api.OK, 1, numbersFrom(9, 9)...)
}

// TestCursorOfMany: MaxRows rows in bands of one and of MaxBand.
func TestCursorOfMany(t *testing.T) {
	columns, o := columnsOf(1)
	table := api.Table{Columns: columns}
	for n := range api.MaxRows {
		table.Rows = append(table.Rows, row(num(n)))
	}
	for band, bands := range map[int]int{1: api.MaxRows, api.MaxBand: api.MaxRows / api.MaxBand, 99: 21} {
		o.Band = band
		s := write(t, table, o)
		c := open(t, s, []int{0}, nil, false)
		holdRows(t, c, -1, api.OK, bands, numbersFrom(0, api.MaxRows-1)...)
		holdRows(t, c, api.MaxRows, api.OK, bands, numbersFrom(0, api.MaxRows-1)...)
		holdRows(t, c, 1, api.OK, 1, numbersFrom(0, 0)...)
		last := open(t, s, []int{0}, []api.Range{from(0, num(api.MaxRows-1), null)}, false)
		holdRows(t, last, 1, api.OK, bands, numbersFrom(api.MaxRows-1, api.MaxRows-1)...)
	}
}
