package strata

import (
	"math"
	"slices"
	"strings"
	"testing"

	"strata/api"
)

var both = []bool{false, true}

func TestScanExample(t *testing.T) {
	s := write(t, example, exampleOptions)
	for _, skip := range both {
		holdScan(t, s, []int{0, 0}, nil, skip, api.OK, row(num(7), num(7)), row(null, null))
		holdScan(t, s, []int{0, 0}, []api.Range{from(0, num(7), num(9))}, skip, api.OK, row(num(7), num(7)))
		holdScan(t, s, []int{0, 0}, []api.Range{from(0, num(8), null)}, skip, api.OK)
	}
	// Which band is skipped shows where a chunk is bad: 1 0 is the second one's.
	first := strings.Replace(s, octets(1, 1, 14), octets(1, 9, 14), 1)
	second := strings.Replace(s, octets(14, 1, 0), octets(14, 9, 0), 1)
	holdScan(t, first, []int{0, 0}, []api.Range{from(0, num(8), null)}, true, api.OK)
	holdScan(t, first, []int{0, 0}, []api.Range{from(0, num(8), null)}, false, api.ErrBytes)
	holdScan(t, second, []int{0, 0}, []api.Range{from(0, num(8), null)}, true, api.ErrBytes)
}

func TestScanColumns(t *testing.T) {
	for band := 1; band <= 6; band++ {
		for _, bounds := range both {
			for _, skip := range both {
				s := write(t, mixed, api.Options{Band: band, Encodings: []int{api.Delta, api.Dict, api.Dict}, Bounds: bounds})
				holdScan(t, s, []int{0, 1, 2}, nil, skip, api.OK, mixed.Rows...)
				holdScan(t, s, []int{2, 0}, nil, skip, api.OK, row(word("b"), num(-3)), row(word("ab"), num(200)), row(null, null), row(null, num(-4)), row(word(""), num(-4)))
				holdScan(t, s, []int{1, 1, 1}, []api.Range{from(2, word("ab"), null)}, skip, api.OK, row(num(1), num(1), num(1)), row(num(0), num(0), num(0)))
				holdScan(t, s, nil, nil, skip, api.OK, nil, nil, nil, nil, nil)
				holdScan(t, s, []int{}, []api.Range{}, skip, api.OK, nil, nil, nil, nil, nil)
				holdScan(t, s, nil, []api.Range{from(1, null, null)}, skip, api.OK, nil, nil, nil)
			}
		}
	}
}

func TestScanRanges(t *testing.T) {
	all := func(l ...int) [][]api.Value {
		var rows [][]api.Value
		for _, n := range l {
			rows = append(rows, row(num(n)))
		}
		return rows
	}
	table := api.Table{Columns: []api.Column{{Name: "n", Kind: api.Int}}, Rows: append(all(1, 5, 3), append([][]api.Value{{null}}, all(5, math.MaxInt, math.MinInt)...)...)}
	for _, c := range []struct {
		why    string
		ranges []api.Range
		want   [][]api.Value
	}{
		{"neither Low nor High", []api.Range{from(0, null, null)}, all(1, 5, 3, 5, math.MaxInt, math.MinInt)},
		{"from 3 on", []api.Range{from(0, num(3), null)}, all(5, 3, 5, math.MaxInt)},
		{"up to 3", []api.Range{from(0, null, num(3))}, all(1, 3, math.MinInt)},
		{"from 3 to 5", []api.Range{from(0, num(3), num(5))}, all(5, 3, 5)},
		{"just 3", []api.Range{from(0, num(3), num(3))}, all(3)},
		{"between", []api.Range{from(0, num(4), num(4))}, nil},
		{"the wrong way round", []api.Range{from(0, num(5), num(3))}, nil},
		{"the ends", []api.Range{from(0, num(math.MaxInt), num(math.MaxInt))}, all(math.MaxInt)},
		{"the other end", []api.Range{from(0, num(math.MinInt), num(math.MinInt))}, all(math.MinInt)},
		{"two that overlap", []api.Range{from(0, num(2), null), from(0, null, num(4))}, all(3)},
		{"two that do not", []api.Range{from(0, null, num(2)), from(0, num(4), null)}, nil},
	} {
		for band := 1; band <= 7; band++ {
			for _, bounds := range both {
				s := write(t, table, api.Options{Band: band, Encodings: []int{api.Delta}, Bounds: bounds})
				holdScan(t, s, []int{0}, c.ranges, false, api.OK, c.want...)
				holdScan(t, s, []int{0}, c.ranges, true, api.OK, c.want...)
			}
		}
	}
}

func TestScanTextsAndBools(t *testing.T) {
	s := write(t, mixed, api.Options{Band: 2, Encodings: []int{0, 0, 0}, Bounds: true})
	for _, skip := range both {
		for _, c := range []struct {
			r    api.Range
			want [][]api.Value
		}{
			{from(2, word(""), word("")), [][]api.Value{{word("")}}},
			{from(2, word("a"), null), [][]api.Value{{word("b")}, {word("ab")}}},
			{from(2, word("ab\x00"), null), [][]api.Value{{word("b")}}},
			{from(2, null, word("a\xff")), [][]api.Value{{word("ab")}, {word("")}}},
			{from(2, null, word("b")), [][]api.Value{{word("b")}, {word("ab")}, {word("")}}},
			{from(1, num(0), num(0)), [][]api.Value{{word("ab")}}},
			{from(1, num(1), num(1)), [][]api.Value{{word("b")}, {null}}},
			{from(1, num(0), num(1)), [][]api.Value{{word("b")}, {word("ab")}, {null}}},
		} {
			holdScan(t, s, []int{2}, []api.Range{c.r}, skip, api.OK, c.want...)
		}
	}
}

func TestScanErrors(t *testing.T) {
	s := write(t, mixed, api.Options{Band: 2, Encodings: []int{0, 0, 0}, Bounds: true})
	bad := strings.Replace(s, octets(2, 1), octets(2, 9), 1)
	fine := from(0, num(1), num(2))
	for _, skip := range both {
		for _, k := range []int{-1, 3, math.MaxInt, math.MinInt} {
			holdScan(t, s, []int{0, k}, nil, skip, api.ErrColumn)
			holdScan(t, s, []int{k, 0}, []api.Range{fine}, skip, api.ErrColumn)
			holdScan(t, s, []int{0}, []api.Range{fine, from(k, null, null)}, skip, api.ErrColumn)
			holdScan(t, s, nil, []api.Range{from(0, word("a"), null), from(k, null, null)}, skip, api.ErrColumn)
			holdScan(t, s, []int{k}, []api.Range{from(0, word("a"), null)}, skip, api.ErrColumn)
			holdScan(t, bad, []int{0, k}, nil, skip, api.ErrColumn)
		}
		for _, r := range []api.Range{
			from(0, word("a"), null), from(0, null, word("a")), from(0, api.Value{N: 1, S: "a"}, null),
			from(1, num(2), null), from(1, null, num(-1)), from(1, null, word("a")),
			from(2, num(1), null), from(2, null, num(1)), from(2, null, word(strings.Repeat("a", api.MaxText+1))),
			from(0, api.Value{Null: true, N: 1}, null), from(2, null, api.Value{Null: true, S: "a"}),
		} {
			holdScan(t, s, []int{0}, []api.Range{r}, skip, api.ErrRange)
			holdScan(t, s, []int{0}, []api.Range{fine, r}, skip, api.ErrRange)
			holdScan(t, bad, []int{0}, []api.Range{r, fine}, skip, api.ErrRange)
		}
		holdScan(t, bad, []int{0}, nil, skip, api.ErrBytes)
		holdScan(t, s, []int{2}, []api.Range{from(2, null, word(strings.Repeat("a", api.MaxText)))}, skip, api.OK, row(word("")))
	}
}

// TestSkipped: of a band whose chunk is bad nothing comes, if it is skipped, and else an error.
func TestSkipped(t *testing.T) {
	ints := wrap("", head+octets(1, 1, 0, 1, 6, 10)) // from 3 to 5
	texts := wrap("", octets(1, 1, 'x', 3, 0, 1, 1, 0, 1, 2, 'a', 'b', 1, 'b'))
	bools := wrap("", octets(1, 1, 'x', 2, 3, 1, 1, 0, 1, 1, 1))
	without := wrap("", head+octets(1, 1, 0, 0))
	for _, c := range []struct {
		s       string
		ranges  []api.Range
		skipped bool
	}{
		{ints, nil, false},
		{ints, []api.Range{from(0, null, null)}, false},
		{ints, []api.Range{from(0, num(5), null)}, false}, {ints, []api.Range{from(0, num(6), null)}, true},
		{ints, []api.Range{from(0, null, num(3))}, false}, {ints, []api.Range{from(0, null, num(2))}, true},
		{ints, []api.Range{from(0, num(4), num(4))}, false}, {ints, []api.Range{from(0, num(1), num(9))}, false},
		{ints, []api.Range{from(0, num(-9), num(-8))}, true}, {ints, []api.Range{from(0, num(8), num(9))}, true},
		{ints, []api.Range{from(0, num(5), num(3))}, false}, {ints, []api.Range{from(0, num(9), num(1))}, true},
		{ints, []api.Range{from(0, num(4), null), from(0, num(6), null)}, true}, {ints, []api.Range{from(0, num(6), null), from(0, num(4), null)}, true},
		{ints, []api.Range{from(0, num(4), null), from(0, null, num(3))}, false},
		{ints, []api.Range{from(0, num(math.MaxInt), null)}, true}, {ints, []api.Range{from(0, null, num(math.MinInt))}, true},
		{texts, []api.Range{from(0, word("b"), null)}, false}, {texts, []api.Range{from(0, word("b\x00"), null)}, true},
		{texts, []api.Range{from(0, null, word("ab"))}, false}, {texts, []api.Range{from(0, null, word("a\xff"))}, false}, {texts, []api.Range{from(0, null, word("a"))}, true}, {texts, []api.Range{from(0, null, word(""))}, true},
		{bools, []api.Range{from(0, num(1), null)}, false}, {bools, []api.Range{from(0, null, num(0))}, true}, {bools, []api.Range{from(0, num(0), null)}, false},
		{without, []api.Range{from(0, num(6), null)}, false}, {without, []api.Range{from(0, null, num(2))}, false},
	} {
		want := api.ErrBytes
		if c.skipped {
			want = api.OK
		}
		holdScan(t, c.s, []int{0}, c.ranges, true, want)
		holdScan(t, c.s, []int{0}, c.ranges, false, api.ErrBytes)
	}
}

// TestSkippedByAnyColumn: bounds of one column skip the others too, and bounds of a column without a range nothing.
func TestSkippedByAnyColumn(t *testing.T) {
	two := octets(2, 1, 'x', 1, 0, 1, 'y', 1, 0)
	s := wrap("", two+octets(1, 1, 0, 0, 0, 1, 6, 10)) // y from 3 to 5, x without bounds
	holdScan(t, s, []int{0}, []api.Range{from(1, num(6), null)}, true, api.OK)
	holdScan(t, s, []int{0}, []api.Range{from(0, num(6), null), from(1, num(6), null)}, true, api.OK)
	holdScan(t, s, []int{0, 1}, []api.Range{from(0, num(6), null)}, true, api.ErrBytes)
	holdScan(t, s, []int{1}, []api.Range{from(0, num(6), null), from(1, num(5), null)}, true, api.ErrBytes)
}

// TestBadChunks: a chunk matters if its column is asked for, in a band that is not skipped.
func TestBadChunks(t *testing.T) {
	table := api.Table{Columns: []api.Column{{Name: "x", Kind: api.Int}, {Name: "t", Kind: api.Text}}}
	for i := range 6 {
		table.Rows = append(table.Rows, row(num(i), word(strings.Repeat("a", i))))
	}
	s := write(t, table, api.Options{Band: 2, Encodings: []int{api.Plain, api.Dict}, Bounds: true})
	// The chunk of t in the band of rows 2 and 3.
	chunk := chunkOf(t, table, table.Rows[2:4], 1, api.Dict)
	at := strings.Index(s, chunk)
	for i := range chunk {
		bad := s[:at+i] + "\xfe" + s[at+i+1:]
		if chunk[i] == 'a' {
			continue // another text in its place
		}
		for _, skip := range both {
			holdScan(t, bad, []int{0}, nil, skip, api.OK, row(num(0)), row(num(1)), row(num(2)), row(num(3)), row(num(4)), row(num(5)))
			holdScan(t, bad, nil, nil, skip, api.OK, nil, nil, nil, nil, nil, nil)
			holdScan(t, bad, []int{1}, nil, skip, api.ErrBytes)
			holdScan(t, bad, []int{0, 1, 0}, nil, skip, api.ErrBytes)
			holdScan(t, bad, []int{0}, []api.Range{from(1, null, null)}, skip, api.ErrBytes)
			holdScan(t, bad, []int{1}, []api.Range{from(0, num(3), num(3))}, skip, api.ErrBytes)
			holdScan(t, bad, []int{0}, []api.Range{from(0, num(3), num(3)), from(1, word("aaaa"), null)}, false, api.ErrBytes)
			holdFile(t, "a bad chunk", bad, table.Columns, 6)
		}
		holdScan(t, bad, []int{1}, []api.Range{from(0, null, num(1))}, true, api.OK, row(word("")), row(word("a")))
		holdScan(t, bad, []int{1}, []api.Range{from(0, num(4), null)}, true, api.OK, row(word("aaaa")), row(word("aaaaa")))
		holdScan(t, bad, []int{1}, []api.Range{from(0, null, num(1))}, false, api.ErrBytes)
		holdScan(t, bad, []int{1}, []api.Range{from(0, num(4), null)}, false, api.ErrBytes)
		holdScan(t, bad, []int{0}, []api.Range{from(1, word("aaaa"), null)}, true, api.OK, row(num(4)), row(num(5)))
	}
}

// TestChunksOfOtherRows: a chunk of fewer or more values than the band has rows, or of another kind or encoding, is bad.
func TestChunksOfOtherRows(t *testing.T) {
	chunk := octets(2, 1, 2, 4)
	holdScan(t, wrap(chunk, head+octets(1, 2, 4, 0)), []int{0}, nil, false, api.OK, row(num(1)), row(num(2)))
	holdScan(t, wrap(chunk, head+octets(1, 1, 4, 0)), []int{0}, nil, false, api.ErrBytes)
	holdScan(t, wrap(chunk, head+octets(1, 3, 4, 0)), []int{0}, nil, false, api.ErrBytes)
	holdScan(t, wrap(chunk, octets(1, 1, 'x', 1, 1)+octets(1, 2, 4, 0)), []int{0}, nil, false, api.OK, row(num(1)), row(num(3)))
	holdScan(t, wrap(chunk, octets(1, 1, 'x', 1, 2)+octets(1, 2, 4, 0)), []int{0}, nil, false, api.ErrBytes)
	holdScan(t, wrap(chunk, octets(1, 1, 'x', 2, 0)+octets(1, 2, 4, 0)), []int{0}, nil, false, api.ErrBytes)
	holdScan(t, wrap(chunk, octets(1, 1, 'x', 3, 0)+octets(1, 2, 4, 0)), []int{0}, nil, false, api.ErrBytes)
	// The bytes of two chunks, parted elsewhere.
	two := octets(1, 1, 2) + octets(1, 0)
	holdScan(t, wrap(two, head+octets(2, 1, 3, 0, 1, 2, 0)), []int{0}, nil, false, api.OK, row(num(1)), row(null))
	holdScan(t, wrap(two, head+octets(2, 1, 2, 0, 1, 3, 0)), []int{0}, nil, false, api.ErrBytes)
}

func TestBoundsThatAreNotTrue(t *testing.T) {
	table := api.Table{Columns: example.Columns, Rows: [][]api.Value{{num(1)}, {num(2)}, {num(3)}}}
	o := api.Options{Band: 1, Encodings: []int{0}, Bounds: true}
	s := write(t, table, o)
	other := strings.Replace(s, octets(1, 4, 4), octets(1, 80, 90), 1) // 2 as from 40 to 45
	holdScan(t, other, []int{0}, []api.Range{from(0, null, num(39))}, true, api.OK, row(num(1)), row(num(3)))
	holdScan(t, other, []int{0}, []api.Range{from(0, null, num(40))}, true, api.OK, row(num(1)), row(num(2)), row(num(3)))
	holdScan(t, other, []int{0}, []api.Range{from(0, null, num(39))}, false, api.OK, row(num(1)), row(num(2)), row(num(3)))
	holdScan(t, other, []int{0}, nil, true, api.OK, row(num(1)), row(num(2)), row(num(3)))
	// Bounds do not stand for values: a row that they would let in does not come.
	holdScan(t, other, []int{0}, []api.Range{from(0, num(40), null)}, true, api.OK)
	holdScan(t, other, []int{0}, []api.Range{from(0, num(40), null)}, false, api.OK)
}

func TestNullsAlone(t *testing.T) {
	for kind := api.Int; kind <= api.Text; kind++ {
		for _, encoding := range encodingsOf(kind) {
			table := api.Table{Columns: []api.Column{{Name: "c", Kind: kind}}, Rows: [][]api.Value{{null}, {null}, {null}}}
			for _, bounds := range both {
				s := write(t, table, api.Options{Band: 2, Encodings: []int{encoding}, Bounds: bounds})
				if !strings.HasSuffix(s[:len(s)-8], octets(0)) {
					t.Errorf("P8: a band of Nulls has bounds: %v", []byte(s))
				}
				for _, skip := range both {
					holdScan(t, s, []int{0}, nil, skip, api.OK, table.Rows...)
					holdScan(t, s, []int{0}, []api.Range{from(0, null, null)}, skip, api.OK)
					holdScan(t, s, []int{0}, []api.Range{from(0, api.Value{}, null)}, skip, api.OK)
				}
			}
		}
	}
}

// TestScanEdges: no rows and MaxRows, one column and MaxColumns, bands of 1 and MaxBand, every encoding.
func TestScanEdges(t *testing.T) {
	for _, count := range []int{0, 1, api.MaxRows} {
		for _, width := range []int{1, api.MaxColumns} {
			for _, band := range []int{1, api.MaxBand} {
				table := api.Table{}
				o := api.Options{Band: band, Bounds: count < api.MaxRows}
				var columns []int
				for k := range width {
					kind := 1 + k%3
					of := encodingsOf(kind)
					table.Columns = append(table.Columns, api.Column{Name: string(rune('a' + k)), Kind: kind})
					o.Encodings = append(o.Encodings, of[k/3%len(of)])
					columns = append(columns, k)
				}
				for i := range count {
					l := row(num(i), num(i/7%2), word(strings.Repeat("t", i%3)), null, num(1), word(""), num(-i), null)
					table.Rows = append(table.Rows, l[:width])
				}
				if band == 1 && width == api.MaxColumns && count == api.MaxRows {
					// More chunks than a file has room for.
					holdWrite(t, "16000 chunks", table, o, api.ErrLong)
					continue
				}
				s := write(t, table, o)
				holdFile(t, "edges", s, table.Columns, count)
				for _, skip := range both {
					rows, e := Scan(s, columns, nil, skip)
					if e != api.OK || !slices.EqualFunc(rows, table.Rows, slices.Equal) {
						t.Errorf("P12: %d rows of %d columns in bands of %d: %d rows, %d", count, width, band, len(rows), e)
					}
				}
			}
		}
	}
}
