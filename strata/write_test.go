package strata

import (
	"math"
	"math/rand"
	"slices"
	"strings"
	"testing"

	"strata/api"
	"strata/codec"
)

func TestWriteByHand(t *testing.T) {
	for _, c := range []struct {
		why  string
		t    api.Table
		o    api.Options
		want string
	}{
		{"example 4", example, exampleOptions,
			"STRA" + octets(1, 1, 14, 1, 0) + octets(1, 1, 'x', 1, 0, 2, 1, 3, 1, 14, 14, 1, 2, 0) + octets(14, 0, 0, 0) + "STRA"},
		{"without bounds", example, api.Options{Band: 1, Encodings: []int{api.Plain}},
			wrap(octets(1, 1, 14, 1, 0), octets(1, 1, 'x', 1, 0, 2, 1, 3, 0, 1, 2, 0))},
		{"in one band that is larger than the table", example, api.Options{Band: 3, Encodings: []int{api.Dict}, Bounds: true},
			wrap(octets(1, 1, 1, 0, 1, 14), octets(1, 1, 'x', 1, 2, 1, 2, 6, 1, 14, 14))},
		{"no rows", api.Table{Columns: mixed.Columns}, api.Options{Band: 5, Encodings: []int{api.Delta, api.Runs, api.Dict}, Bounds: true},
			wrap("", octets(3, 1, 'n', 1, 1, 4)+"flag"+octets(2, 3, 1, 't', 3, 2, 0))},
		{"bands of 2 and a smaller one", mixed, api.Options{Band: 2, Encodings: []int{api.Delta, api.Runs, api.Plain}, Bounds: true},
			wrap(octets(2, 1, 5, 150, 3)+octets(2, 1, 1, 1, 1, 0)+octets(2, 1, 1, 'b', 2, 'a', 'b')+
				octets(1, 0, 1, 1, 7)+octets(1, 1, 1, 0, 1, 1)+octets(2, 0)+
				octets(1, 1, 7)+octets(1, 0)+octets(1, 1, 0),
				octets(3, 1, 'n', 1, 1, 4)+"flag"+octets(2, 3, 1, 't', 3, 0, 3)+
					octets(2, 5, 1, 5, 144, 3, 6, 1, 0, 1, 7, 1, 2, 'a', 'b', 1, 'b')+
					octets(2, 5, 1, 7, 7, 6, 1, 1, 1, 2, 0)+
					octets(1, 3, 1, 7, 7, 2, 0, 3, 1, 0, 0))},
	} {
		if s, e := Write(c.t, c.o); s != c.want || e != api.OK {
			t.Errorf("P7, P8: %s: Write = %v, %d, want %v", c.why, []byte(s), e, []byte(c.want))
		}
	}
}

// plain is one value as Plain, by way of a chunk of it, of which the levels are two bytes.
func plain(v api.Value, kind int) string {
	s, _ := codec.Encode([]api.Value{v}, kind, api.Plain)
	return s[2:]
}

// boundsByHand sorts, which Write does not.
func boundsByHand(rows [][]api.Value, column int, kind int) string {
	var l []api.Value
	for _, r := range rows {
		if !r[column].Null {
			l = append(l, r[column])
		}
	}
	if len(l) == 0 {
		return octets(0)
	}
	slices.SortFunc(l, func(a, b api.Value) int {
		if less(a, b) {
			return -1
		}
		if less(b, a) {
			return 1
		}
		return 0
	})
	return octets(1) + plain(l[0], kind) + plain(l[len(l)-1], kind)
}

// fileByHand writes a file as P7 and P8 tell it, word by word.
func fileByHand(t *testing.T, table api.Table, o api.Options) string {
	t.Helper()
	chunks, bands, count := "", "", 0
	for rows := range slices.Chunk(table.Rows, o.Band) {
		count++
		bands += varint(len(rows))
		for k, c := range table.Columns {
			chunk := chunkOf(t, table, rows, k, o.Encodings[k])
			chunks += chunk
			bands += varint(len(chunk))
			if o.Bounds {
				bands += boundsByHand(rows, k, c.Kind)
			} else {
				bands += octets(0)
			}
		}
	}
	footer := varint(len(table.Columns))
	for k, c := range table.Columns {
		footer += varint(len(c.Name)) + c.Name + octets(c.Kind, o.Encodings[k])
	}
	return wrap(chunks, footer+varint(count)+bands)
}

func TestWriteDrawn(t *testing.T) {
	r := rand.New(rand.NewSource(7))
	for range 1500 {
		table, o := drawTable(r)
		if s := write(t, table, o); s != fileByHand(t, table, o) {
			t.Fatalf("P7, P8: Write(%v, %v) = %v, want %v", table, o, []byte(s), []byte(fileByHand(t, table, o)))
		}
	}
}

func TestWriteBounds(t *testing.T) {
	for _, c := range []struct {
		kind            int
		l               []api.Value
		least, greatest api.Value
	}{
		{api.Int, row(num(3), num(-5), num(4)), num(-5), num(4)},
		{api.Int, row(null, num(-1), num(math.MinInt), null), num(math.MinInt), num(-1)},
		{api.Int, row(num(math.MaxInt), num(0)), num(0), num(math.MaxInt)},
		{api.Int, row(null, num(0)), num(0), num(0)},
		{api.Bool, row(num(1), null, num(1)), num(1), num(1)},
		{api.Bool, row(num(1), num(0), num(1)), num(0), num(1)},
		{api.Text, row(word("b"), word("aa"), word("a"), word("ab")), word("a"), word("b")},
		{api.Text, row(word("\xff"), word("é"), word("z"), word("Z")), word("Z"), word("\xff")},
		{api.Text, row(null, word("x"), word("")), word(""), word("x")},
	} {
		table := api.Table{Columns: []api.Column{{Name: "c", Kind: c.kind}}}
		for _, v := range c.l {
			table.Rows = append(table.Rows, row(v))
		}
		s := write(t, table, api.Options{Band: api.MaxBand, Encodings: []int{api.Plain}, Bounds: true})
		end := octets(1) + plain(c.least, c.kind) + plain(c.greatest, c.kind)
		if !strings.HasSuffix(s[:len(s)-8], end) {
			t.Errorf("P8: bounds of %v: the footer %v does not end with %v", c.l, []byte(s), []byte(end))
		}
	}
}

// columnsOf makes that many columns of Ints, with options that fit them.
func columnsOf(count int) ([]api.Column, api.Options) {
	var l []api.Column
	for i := range count {
		l = append(l, api.Column{Name: string(rune('a' + i)), Kind: api.Int})
	}
	return l, api.Options{Band: api.MaxBand, Encodings: make([]int, count)}
}

func holdWrite(t *testing.T, why string, table api.Table, o api.Options, want api.Errno) {
	t.Helper()
	s, e := Write(table, o)
	if e != want || (s == "") != (want != api.OK) {
		t.Errorf("P7: %s: %d bytes, %d, want %d", why, len(s), e, want)
	}
}

func TestWriteTables(t *testing.T) {
	for count, want := range map[int]api.Errno{0: api.ErrTable, 1: api.OK, api.MaxColumns: api.OK, api.MaxColumns + 1: api.ErrTable} {
		columns, o := columnsOf(count)
		holdWrite(t, "so many columns", api.Table{Columns: columns}, o, want)
	}
	for count, want := range map[int]api.Errno{0: api.ErrTable, 1: api.OK, api.MaxName: api.OK, api.MaxName + 1: api.ErrTable} {
		columns, o := columnsOf(1)
		columns[0].Name = strings.Repeat("n", count)
		holdWrite(t, "a name of so many bytes", api.Table{Columns: columns}, o, want)
	}
	for count, want := range map[int]api.Errno{0: api.OK, 1: api.OK, api.MaxRows: api.OK, api.MaxRows + 1: api.ErrTable} {
		columns, o := columnsOf(1)
		holdWrite(t, "so many rows", api.Table{Columns: columns, Rows: slices.Repeat([][]api.Value{{num(1)}}, count)}, o, want)
	}
	for kind, want := range map[int]api.Errno{-1: api.ErrTable, 0: api.ErrTable, api.Int: api.OK, api.Bool: api.OK, api.Text: api.OK, 4: api.ErrTable, 257: api.ErrTable} {
		columns, o := columnsOf(1)
		columns[0].Kind = kind
		holdWrite(t, "such a kind", api.Table{Columns: columns}, o, want)
	}
	columns, o := columnsOf(3)
	columns[2].Name = "a"
	holdWrite(t, "a name twice", api.Table{Columns: columns}, o, api.ErrTable)
}

func TestWriteRows(t *testing.T) {
	columns := []api.Column{{Name: "n", Kind: api.Int}, {Name: "b", Kind: api.Bool}, {Name: "t", Kind: api.Text}}
	o := api.Options{Band: 1, Encodings: make([]int, 3)}
	good := row(num(math.MinInt), num(1), word(strings.Repeat("x", api.MaxText)))
	for _, c := range []struct {
		why string
		row []api.Value
		e   api.Errno
	}{
		{"good", good, api.OK}, {"Nulls", row(null, null, null), api.OK}, {"zeros", row(num(0), num(0), word("")), api.OK},
		{"no values", nil, api.ErrTable}, {"a value too few", good[:2], api.ErrTable}, {"a value too many", row(num(1), num(1), word(""), null), api.ErrTable},
		{"a text as Int", row(word("a"), num(1), word("")), api.ErrTable},
		{"2 as Bool", row(num(1), num(2), word("")), api.ErrTable}, {"-1 as Bool", row(num(1), num(-1), word("")), api.ErrTable},
		{"a number as Text", row(num(1), num(1), num(1)), api.ErrTable}, {"too long a text", row(num(1), num(1), word(strings.Repeat("x", api.MaxText+1))), api.ErrTable},
		{"a Null with a number", row(api.Value{Null: true, N: 1}, num(1), word("")), api.ErrTable}, {"a Null with a text", row(num(1), num(1), api.Value{Null: true, S: "a"}), api.ErrTable},
	} {
		holdWrite(t, c.why, api.Table{Columns: columns, Rows: [][]api.Value{c.row}}, o, c.e)
		holdWrite(t, c.why+", as the last row", api.Table{Columns: columns, Rows: [][]api.Value{good, good, c.row}}, o, c.e)
	}
}

func TestWriteOptions(t *testing.T) {
	table := api.Table{Columns: mixed.Columns}
	for _, c := range []struct {
		band      int
		encodings []int
		e         api.Errno
	}{
		{1, []int{0, 0, 0}, api.OK}, {api.MaxBand, []int{api.Delta, api.Runs, api.Dict}, api.OK}, {7, []int{api.Dict, api.Dict, api.Dict}, api.OK},
		{0, []int{0, 0, 0}, api.ErrOptions}, {-1, []int{0, 0, 0}, api.ErrOptions}, {api.MaxBand + 1, []int{0, 0, 0}, api.ErrOptions}, {math.MaxInt, []int{0, 0, 0}, api.ErrOptions}, {math.MinInt, []int{0, 0, 0}, api.ErrOptions},
		{1, nil, api.ErrOptions}, {1, []int{0, 0}, api.ErrOptions}, {1, []int{0, 0, 0, 0}, api.ErrOptions},
		{1, []int{api.Runs, 0, 0}, api.ErrOptions}, {1, []int{0, api.Delta, 0}, api.ErrOptions}, {1, []int{0, 0, api.Delta}, api.ErrOptions}, {1, []int{0, 0, api.Runs}, api.ErrOptions},
		{1, []int{-1, 0, 0}, api.ErrOptions}, {1, []int{0, 4, 0}, api.ErrOptions}, {1, []int{0, 0, 256}, api.ErrOptions}, {1, []int{math.MaxInt, math.MinInt, 0}, api.ErrOptions},
	} {
		holdWrite(t, "options", table, api.Options{Band: c.band, Encodings: c.encodings}, c.e)
	}
}

func TestWriteBandsOfOneAndMany(t *testing.T) {
	columns, o := columnsOf(1)
	table := api.Table{Columns: columns, Rows: slices.Repeat([][]api.Value{{num(1)}}, api.MaxRows)}
	for band, bands := range map[int]int{1: api.MaxRows, api.MaxBand: api.MaxRows / api.MaxBand, 99: 21} {
		o.Band = band
		head := octets(1, 1, 'a', 1, 0) + varint(bands) + varint(band)
		if s := write(t, table, o); !strings.Contains(s, head) {
			t.Errorf("P7: bands of %d rows: no footer that tells %d of them", band, bands)
		}
	}
}

// longTable makes a table of which Plain texts in bands of MaxBand make a file of that many bytes.
func longTable(t *testing.T, size int) (api.Table, api.Options) {
	table := api.Table{Columns: []api.Column{{Name: "t", Kind: api.Text}}}
	for range api.MaxRows {
		table.Rows = append(table.Rows, row(word(strings.Repeat("a", api.MaxText-1))))
	}
	o := api.Options{Band: api.MaxBand, Encodings: []int{api.Plain}}
	more := size - len(write(t, table, o))
	for i := range more {
		table.Rows[i] = row(word(strings.Repeat("a", api.MaxText)))
	}
	return table, o
}

func TestWriteLong(t *testing.T) {
	table, o := longTable(t, api.MaxFile)
	s := write(t, table, o)
	if len(s) != api.MaxFile || s != fileByHand(t, table, o) {
		t.Errorf("P7: a file of %d bytes, want %d", len(s), api.MaxFile)
	}
	if columns, rows, e := Columns(s); len(columns) != 1 || rows != api.MaxRows || e != api.OK {
		t.Errorf("P9: Columns of a file of MaxFile bytes: %v, %d, %d", columns, rows, e)
	}
	rows, e := Scan(s, []int{0}, nil, false)
	if e != api.OK || !slices.EqualFunc(rows, table.Rows, slices.Equal) {
		t.Errorf("P12: Scan of a file of MaxFile bytes: %d rows, %d", len(rows), e)
	}
	table, o = longTable(t, api.MaxFile+1)
	holdWrite(t, "a file of one byte more than MaxFile", table, o, api.ErrLong)
	o.Bounds = true
	holdWrite(t, "and with bounds", table, o, api.ErrLong)
}

func TestWriteOrderOfErrors(t *testing.T) {
	long, _ := longTable(t, api.MaxFile+1)
	bad := api.Table{Columns: long.Columns, Rows: slices.Clone(long.Rows)}
	bad.Rows[api.MaxRows-1] = row(num(1))
	wrong := api.Options{Band: 0, Encodings: []int{api.Plain}}
	holdWrite(t, "no table, options or room", bad, wrong, api.ErrTable)
	holdWrite(t, "no options or room", long, wrong, api.ErrOptions)
	holdWrite(t, "nothing at all", api.Table{}, api.Options{}, api.ErrTable)
}
