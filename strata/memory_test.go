package strata

import (
	"math/rand"
	"reflect"
	"runtime"
	"slices"
	"strings"
	"sync"
	"testing"
	"time"

	"strata/api"
)

// roomy copies a list, with elements in its spare room that must stay.
func roomy[T any](l []T, spare T) []T {
	return append(slices.Clone(l), spare, spare)[:len(l)]
}

func TestNothingHandedInIsChanged(t *testing.T) {
	r := rand.New(rand.NewSource(2))
	for range 200 {
		table, o := drawTable(r)
		for i := range table.Rows {
			table.Rows[i] = roomy(table.Rows[i], word("spare"))
		}
		table.Rows = roomy(table.Rows, row(word("spare")))
		table.Columns = roomy(table.Columns, api.Column{Name: "spare", Kind: 77})
		o.Encodings = roomy(o.Encodings, 77)
		columns, ranges := drawQuestion(r, table)
		columns, ranges = roomy(columns, 77), roomy(ranges, from(77, null, null))
		before := deepCopy(table, o, columns, ranges)
		s := write(t, table, o)
		if _, e := Scan(s, columns, ranges, true); e != api.OK {
			t.Fatalf("P10: Scan: %d", e)
		}
		if !reflect.DeepEqual(before, deepCopy(table, o, columns, ranges)) {
			t.Fatalf("P2: Write or Scan changed what it was given: %v", table)
		}
	}
}

// deepCopy copies all lists with their spare room.
func deepCopy(t api.Table, o api.Options, columns []int, ranges []api.Range) []any {
	l := []any{
		slices.Clone(t.Columns[:cap(t.Columns)]), slices.Clone(o.Encodings[:cap(o.Encodings)]), o.Band, o.Bounds,
		slices.Clone(columns[:cap(columns)]), slices.Clone(ranges[:cap(ranges)]),
	}
	for _, one := range t.Rows[:cap(t.Rows)] {
		l = append(l, slices.Clone(one[:cap(one)]))
	}
	return l
}

func TestAnswersShareNoRoom(t *testing.T) {
	s := write(t, mixed, api.Options{Band: 2, Encodings: []int{api.Dict, api.Dict, api.Dict}, Bounds: true})
	want, _ := Scan(s, []int{0, 2, 2, 0}, nil, false)
	for spoiled := range want {
		rows, _ := Scan(s, []int{0, 2, 2, 0}, nil, false)
		// Spare room that two rows shared would show in the other one.
		long := append(rows[spoiled][:cap(rows[spoiled])], word("new"))
		for i := range long {
			long[i] = word("spoiled")
		}
		clear(rows[spoiled][:cap(rows[spoiled])])
		for i := range rows {
			if i != spoiled && !slices.Equal(rows[i], want[i]) {
				t.Errorf("P2: the rows %d and %d share room: %v", i, spoiled, rows[i])
			}
		}
	}
	again, _ := Scan(s, []int{0, 2, 2, 0}, nil, false)
	if !slices.EqualFunc(again, want, slices.Equal) {
		t.Errorf("P2: two answers of Scan share room: %v", again)
	}
	first, _, _ := Columns(s)
	second, _, _ := Columns(s)
	clear(first[:cap(first)])
	if !slices.Equal(second, mixed.Columns) {
		t.Errorf("P2: two answers of Columns share room: %v", second)
	}
}

func TestRowsOfNoColumnsShareNoRoom(t *testing.T) {
	s := write(t, example, exampleOptions)
	rows, _ := Scan(s, nil, nil, false)
	for i := range rows {
		rows[i] = append(rows[i], num(i))
	}
	if !slices.EqualFunc(rows, [][]api.Value{{num(0)}, {num(1)}}, slices.Equal) {
		t.Errorf("P2: rows without values share room: %v", rows)
	}
}

// holdGoroutines fails if more are left than before; one that has sent all may still be about to go.
func holdGoroutines(t *testing.T, before int) {
	t.Helper()
	for range 1000 {
		if runtime.NumGoroutine() <= before {
			return
		}
		time.Sleep(time.Millisecond)
	}
	t.Errorf("P1: %d goroutines, %d before", runtime.NumGoroutine(), before)
}

func TestNoGoroutineIsLeft(t *testing.T) {
	columns, o := columnsOf(api.MaxColumns)
	table := api.Table{Columns: columns, Rows: slices.Repeat([][]api.Value{row(num(1), num(2), num(3), num(4), num(5), num(6), num(7), num(8))}, 300)}
	s := write(t, table, o)
	all := []int{0, 1, 2, 3, 4, 5, 6, 7}
	before := runtime.NumGoroutine()
	for column := range all {
		// The chunk of this column begins with 100 1, as all do.
		at := strings.Index(s, octets(100, 1, 2*column+2))
		bad := s[:at] + octets(99) + s[at+1:]
		holdScan(t, bad, all, nil, false, api.ErrBytes)
	}
	for range 50 {
		if rows, e := Scan(s, all, nil, false); len(rows) != 300 || e != api.OK {
			t.Fatalf("P10: %d rows, %d", len(rows), e)
		}
	}
	holdGoroutines(t, before)
}

func TestCallsAtOnce(t *testing.T) {
	s := write(t, mixed, api.Options{Band: 2, Encodings: []int{api.Delta, api.Runs, api.Dict}, Bounds: true})
	var group sync.WaitGroup
	for range 8 {
		group.Go(func() {
			for range 50 {
				holdScan(t, s, []int{0, 1, 2}, nil, true, api.OK, mixed.Rows...)
			}
		})
	}
	group.Wait()
}
