package strata

import (
	"math/rand"
	"reflect"
	"runtime"
	"slices"
	"strings"
	"sync"
	"testing"
	"time"
	"unsafe"

	"strata/api"
)

// roomy copies a list, with elements in its spare room that must stay.
func roomy[T any](l []T, spare T) []T {
	return append(slices.Clone(l), spare, spare)[:len(l)]
}

func TestNothingHandedInIsChanged(t *testing.T) {
	r := rand.New(rand.NewSource(2))
	for range 200 {
		table, o := drawTable(r)
		for i := range table.Rows {
			table.Rows[i] = roomy(table.Rows[i], word("spare"))
		}
		table.Rows = roomy(table.Rows, row(word("spare")))
		table.Columns = roomy(table.Columns, api.Column{Name: "spare", Kind: 77})
		o.Encodings = roomy(o.Encodings, 77)
		columns, ranges := drawQuestion(r, table)
		columns, ranges = roomy(columns, 77), roomy(ranges, from(77, null, null))
		before := deepCopy(table, o, columns, ranges)
		s := write(t, table, o)
		if _, e := Scan(s, columns, ranges, true); e != api.OK {
			t.Fatalf("P10: Scan: %d", e)
		}
		c := open(t, s, columns, ranges, true)
		for _, one := range take(c, -1) {
			clear(one.row[:cap(one.row)])
		}
		take(c, 1)
		if !reflect.DeepEqual(before, deepCopy(table, o, columns, ranges)) {
			t.Fatalf("P2: Write, Scan or a cursor changed what it was given: %v", table)
		}
	}
}

// deepCopy copies all lists with their spare room.
func deepCopy(t api.Table, o api.Options, columns []int, ranges []api.Range) []any {
	l := []any{
		slices.Clone(t.Columns[:cap(t.Columns)]), slices.Clone(o.Encodings[:cap(o.Encodings)]), o.Band, o.Bounds,
		slices.Clone(columns[:cap(columns)]), slices.Clone(ranges[:cap(ranges)]),
	}
	for _, one := range t.Rows[:cap(t.Rows)] {
		l = append(l, slices.Clone(one[:cap(one)]))
	}
	return l
}

func TestAnswersShareNoRoom(t *testing.T) {
	s := write(t, mixed, api.Options{Band: 2, Encodings: []int{api.Dict, api.Dict, api.Dict}, Bounds: true})
	want, _ := Scan(s, []int{0, 2, 2, 0}, nil, false)
	for spoiled := range want {
		rows, _ := Scan(s, []int{0, 2, 2, 0}, nil, false)
		// Spare room that two rows shared would show in the other one.
		long := append(rows[spoiled][:cap(rows[spoiled])], word("new"))
		for i := range long {
			long[i] = word("spoiled")
		}
		clear(rows[spoiled][:cap(rows[spoiled])])
		for i := range rows {
			if i != spoiled && !slices.Equal(rows[i], want[i]) {
				t.Errorf("P2: the rows %d and %d share room: %v", i, spoiled, rows[i])
			}
		}
	}
	again, _ := Scan(s, []int{0, 2, 2, 0}, nil, false)
	if !slices.EqualFunc(again, want, slices.Equal) {
		t.Errorf("P2: two answers of Scan share room: %v", again)
	}
	first, _, _ := Columns(s)
	second, _, _ := Columns(s)
	clear(first[:cap(first)])
	if !slices.Equal(second, mixed.Columns) {
		t.Errorf("P2: two answers of Columns share room: %v", second)
	}
}

func TestRowsOfNoColumnsShareNoRoom(t *testing.T) {
	s := write(t, example, exampleOptions)
	rows, _ := Scan(s, nil, nil, false)
	for i := range rows {
		rows[i] = append(rows[i], num(i))
	}
	if !slices.EqualFunc(rows, [][]api.Value{{num(0)}, {num(1)}}, slices.Equal) {
		t.Errorf("P2: rows without values share room: %v", rows)
	}
}

// TestRowsAreTheCallers: whatever is written into one that yield was given shows nowhere else.
func TestRowsAreTheCallers(t *testing.T) {
	s := write(t, mixed, api.Options{Band: 2, Encodings: []int{api.Dict, api.Dict, api.Dict}, Bounds: true})
	columns := []int{0, 2, 2, 0}
	c := open(t, s, columns, nil, false)
	want := take(open(t, s, columns, nil, false), -1)
	for spoiled := range want {
		var l []numbered
		for number, one := range c.Rows() {
			l = append(l, numbered{number, one})
			if number == spoiled {
				// At once, while more rows of its band are to come, and behind its end too.
				overwrite(one)
			}
		}
		overwrite(l[spoiled].row)
		for i := range l {
			if i != spoiled && !alike(l[i], want[i]) {
				t.Errorf("P2: the rows %d and %d share room: %v", i, spoiled, l[i])
			}
		}
	}
	if l := take(c, -1); !slices.EqualFunc(l, want, alike) {
		t.Errorf("P2: rows of an earlier ranging share room with this one's: %v", l)
	}
	var none [][]api.Value
	for number, one := range open(t, s, nil, nil, false).Rows() {
		none = append(none, append(one, num(number)))
	}
	if !slices.EqualFunc(none, [][]api.Value{{num(0)}, {num(1)}, {num(2)}, {num(3)}, {num(4)}}, slices.Equal) {
		t.Errorf("P2: rows without values share room: %v", none)
	}
}

// overwrite writes into all of a list, its spare room too.
func overwrite(l []api.Value) {
	l = l[:cap(l)]
	for i := range l {
		l[i] = word("overwritten")
	}
}

// TestListsAreTheCallers: a cursor does not see what becomes of the lists that Open was given.
func TestListsAreTheCallers(t *testing.T) {
	s := countingFile(t)
	for _, skip := range both {
		columns, ranges := []int{0}, []api.Range{from(0, num(4), num(7)), from(2, word("aaa"), null)}
		change := func() {
			columns[0] = 2
			ranges[0] = from(1, num(0), num(0))
			ranges[1].Low = word("b")
		}
		c := open(t, s, columns, ranges, skip)
		other := open(t, s, columns, ranges, skip)
		bands := 4
		if skip {
			bands = 2
		}
		change()
		holdRows(t, c, -1, api.OK, bands, numbersFrom(4, 7)...)
		holdRows(t, other, -1, api.OK, bands, numbersFrom(4, 7)...)
		columns[0], ranges[0], ranges[1] = 0, from(0, num(4), num(7)), from(2, word("aaa"), null)
		c = open(t, s, columns, ranges, skip)
		var l []numbered
		for number, one := range c.Rows() {
			l = append(l, numbered{number, one})
			change()
		}
		if !slices.EqualFunc(l, numbersFrom(4, 7), alike) {
			t.Errorf("P2: lists that change within a ranging change its rows: %v", l)
		}
	}
}

// lent makes a text of which the bytes can be taken back, to see who still holds them.
func lent(s string) (text string, takeBack func()) {
	b := []byte(s)
	return unsafe.String(unsafe.SliceData(b), len(b)), func() { clear(b) }
}

// TestTextsAreTheCallers: no text that was handed in is kept, by a cursor or in an answer.
func TestTextsAreTheCallers(t *testing.T) {
	s := countingFile(t)
	all := []int{0, 1, 2}
	text, takeBack := lent(s)
	low, takeLowBack := lent("aaa")
	high, takeHighBack := lent("aaaaaaa")
	ranges := []api.Range{from(2, word(low), word(high))}
	columns, _, _ := Columns(text)
	rows, _ := Scan(text, all, ranges, true)
	c := open(t, text, all, ranges, true)
	early := take(c, 2)
	takeBack()
	takeLowBack()
	takeHighBack()
	want := counting(10)
	if !slices.Equal(columns, want.Columns) {
		t.Errorf("P2: names are pieces of the file: %v", columns)
	}
	if !slices.EqualFunc(rows, want.Rows[3:8], slices.Equal) {
		t.Errorf("P2: rows are pieces of the file: %v", rows)
	}
	var kept []numbered
	for n := 3; n <= 7; n++ {
		kept = append(kept, numbered{n, want.Rows[n]})
	}
	if !slices.EqualFunc(early, kept[:2], alike) {
		t.Errorf("P2: rows of a cursor are pieces of the file: %v", early)
	}
	holdRows(t, c, -1, api.OK, 2, kept...)
}

// holdGoroutines fails if more are left than before; one that has sent all may still be about to go.
func holdGoroutines(t *testing.T, before int) {
	t.Helper()
	for range 1000 {
		if runtime.NumGoroutine() <= before {
			return
		}
		time.Sleep(time.Millisecond)
	}
	t.Errorf("P1: %d goroutines, %d before", runtime.NumGoroutine(), before)
}

func TestNoGoroutineIsLeft(t *testing.T) {
	columns, o := columnsOf(api.MaxColumns)
	table := api.Table{Columns: columns, Rows: slices.Repeat([][]api.Value{row(num(1), num(2), num(3), num(4), num(5), num(6), num(7), num(8))}, 300)}
	s := write(t, table, o)
	all := []int{0, 1, 2, 3, 4, 5, 6, 7}
	before := runtime.NumGoroutine()
	for column := range all {
		// The chunk of this column begins with 100 1, as all do.
		at := strings.Index(s, octets(100, 1, 2*column+2))
		bad := s[:at] + octets(99) + s[at+1:]
		holdScan(t, bad, all, nil, false, api.ErrBytes)
	}
	for range 50 {
		if rows, e := Scan(s, all, nil, false); len(rows) != 300 || e != api.OK {
			t.Fatalf("P10: %d rows, %d", len(rows), e)
		}
	}
	holdGoroutines(t, before)
}

// TestNoGoroutineWhileYielding: none works while yield is called, nor behind a ranging that was stopped or met a bad band.
func TestNoGoroutineWhileYielding(t *testing.T) {
	columns, o := columnsOf(api.MaxColumns)
	o.Band = 5
	table := api.Table{Columns: columns, Rows: slices.Repeat([][]api.Value{row(num(1), num(2), num(3), num(4), num(5), num(6), num(7), num(8))}, 30)}
	s := write(t, table, o)
	all := []int{0, 1, 2, 3, 4, 5, 6, 7}
	c := open(t, s, all, nil, false)
	before := runtime.NumGoroutine()
	for range c.Rows() {
		holdGoroutines(t, before)
	}
	holdGoroutines(t, before)
	for most := 1; most <= 30; most++ {
		take(c, most)
		holdGoroutines(t, before)
	}
	for column := range all {
		bad := open(t, spoilChunk(t, s, 3, column), all, nil, false)
		for range bad.Rows() {
			holdGoroutines(t, before)
		}
		holdEnd(t, bad, api.ErrBytes, 4)
		holdGoroutines(t, before)
	}
}

func TestCallsAtOnce(t *testing.T) {
	s := write(t, mixed, api.Options{Band: 2, Encodings: []int{api.Delta, api.Runs, api.Dict}, Bounds: true})
	var group sync.WaitGroup
	for range 8 {
		c := open(t, s, []int{0}, []api.Range{from(0, null, num(-4))}, true)
		group.Go(func() {
			for range 50 {
				holdScan(t, s, []int{0, 1, 2}, nil, true, api.OK, mixed.Rows...)
				holdRows(t, c, -1, api.OK, 2, at(3, num(-4)), at(4, num(-4)))
				holdRows(t, c, 1, api.OK, 1, at(3, num(-4)))
			}
		})
	}
	group.Wait()
}
