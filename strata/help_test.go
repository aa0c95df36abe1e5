package strata

import (
	"math/rand"
	"slices"
	"strings"
	"testing"

	"strata/api"
	"strata/codec"
)

var null = api.Value{Null: true}

func num(n int) api.Value { return api.Value{N: n} }

func word(s string) api.Value { return api.Value{S: s} }

func row(l ...api.Value) []api.Value { return l }

// octets makes a text of bytes.
func octets(l ...int) string {
	var b []byte
	for _, n := range l {
		b = append(b, byte(n))
	}
	return string(b)
}

// varint is written here once more, so that the tests do not lean on what they test.
func varint(n int) string {
	if n < 128 {
		return octets(n)
	}
	return octets(n%128+128) + varint(n/128)
}

// wrap makes a file of all its chunks and a footer.
func wrap(chunks string, footer string) string {
	n := len(footer)
	return "STRA" + chunks + footer + octets(n%256, n/256%256, n/65536, 0) + "STRA"
}

// example is the table of the document's examples 4 and 5.
var example = api.Table{
	Columns: []api.Column{{Name: "x", Kind: api.Int}},
	Rows:    [][]api.Value{{num(7)}, {null}},
}

var exampleOptions = api.Options{Band: 1, Encodings: []int{api.Plain}, Bounds: true}

// mixed has columns of every kind, Nulls, and in bands of 2 a smaller last one.
var mixed = api.Table{
	Columns: []api.Column{{Name: "n", Kind: api.Int}, {Name: "flag", Kind: api.Bool}, {Name: "t", Kind: api.Text}},
	Rows: [][]api.Value{
		{num(-3), num(1), word("b")},
		{num(200), num(0), word("ab")},
		{null, num(1), null},
		{num(-4), null, null},
		{num(-4), null, word("")},
	},
}

func write(t *testing.T, table api.Table, o api.Options) string {
	t.Helper()
	s, e := Write(table, o)
	if e != api.OK {
		t.Fatalf("P7: Write(%v, %v): %d", table, o, e)
	}
	return s
}

// holdScan fails unless Scan answers so, and a cursor gives it.
func holdScan(t *testing.T, s string, columns []int, ranges []api.Range, skip bool, e api.Errno, want ...[]api.Value) {
	t.Helper()
	rows, f := Scan(s, columns, ranges, skip)
	if f != e || (e != api.OK && rows != nil) || !slices.EqualFunc(rows, want, slices.Equal) {
		t.Errorf("P10: Scan(.., %v, %v, %v) = %v, %d, want %v, %d", columns, ranges, skip, rows, f, want, e)
	}
	c, f := Open(s, columns, ranges, skip)
	if f != api.OK {
		if c != nil || f != e {
			t.Errorf("P11: Open(.., %v, %v, %v) = %v, %d, want %d", columns, ranges, skip, c, f, e)
		}
		return
	}
	var given [][]api.Value
	for _, l := range c.Rows() {
		given = append(given, l)
	}
	// Rows that come ahead of a bad band are none of Scan's answer.
	if c.Err() != e || (e == api.OK && !slices.EqualFunc(given, want, slices.Equal)) {
		t.Errorf("P11: a ranging of %v, %v, %v gives %v, %d, want %v, %d", columns, ranges, skip, given, c.Err(), want, e)
	}
}

// from makes one range.
func from(column int, low api.Value, high api.Value) api.Range {
	return api.Range{Column: column, Low: low, High: high}
}

// encodingsOf: each kind's encodings.
func encodingsOf(kind int) []int {
	return [][]int{{api.Plain, api.Delta, api.Dict}, {api.Plain, api.Dict, api.Runs}, {api.Plain, api.Dict}}[kind-1]
}

// drawValue draws one that is often alike to others, and now and then at the ends of what may be.
func drawValue(r *rand.Rand, kind int) api.Value {
	switch {
	case r.Intn(5) == 0:
		return null
	case kind == api.Bool:
		return num(r.Intn(2))
	case kind == api.Text && r.Intn(8) == 0:
		return word(strings.Repeat("\xff", r.Intn(api.MaxText+1)))
	case kind == api.Text:
		return word(strings.Repeat(string(rune('a'+r.Intn(3))), r.Intn(3)))
	case r.Intn(4) == 0:
		return num(int(r.Uint64()) >> r.Intn(64))
	}
	return num(r.Intn(9) - 4)
}

// drawTable draws a table with options that fit it.
func drawTable(r *rand.Rand) (api.Table, api.Options) {
	t := api.Table{}
	o := api.Options{Band: 1 + r.Intn(12), Bounds: r.Intn(3) > 0}
	for i := range 1 + r.Intn(api.MaxColumns) {
		kind := 1 + r.Intn(3)
		of := encodingsOf(kind)
		t.Columns = append(t.Columns, api.Column{Name: strings.Repeat(string(rune('a'+i)), 1+r.Intn(api.MaxName)), Kind: kind})
		o.Encodings = append(o.Encodings, of[r.Intn(len(of))])
	}
	for range r.Intn(50) {
		var l []api.Value
		for _, c := range t.Columns {
			l = append(l, drawValue(r, c.Kind))
		}
		t.Rows = append(t.Rows, l)
	}
	return t, o
}

// drawQuestion draws columns and ranges that fit a table.
func drawQuestion(r *rand.Rand, t api.Table) (columns []int, ranges []api.Range) {
	for range r.Intn(4) {
		columns = append(columns, r.Intn(len(t.Columns)))
	}
	for range r.Intn(3) {
		k := r.Intn(len(t.Columns))
		kind := t.Columns[k].Kind
		ranges = append(ranges, from(k, drawValue(r, kind), drawValue(r, kind)))
	}
	return columns, ranges
}

// less is the document's order, of two values of a kind that are not Null.
func less(a, b api.Value) bool { return a.N < b.N || a.S < b.S }

// expected answers what the document says that Scan gives of a table.
func expected(t api.Table, columns []int, ranges []api.Range) [][]api.Value {
	var want [][]api.Value
	for _, l := range t.Rows {
		lies := true
		for _, x := range ranges {
			v := l[x.Column]
			lies = lies && !v.Null && (x.Low.Null || !less(v, x.Low)) && (x.High.Null || !less(x.High, v))
		}
		if !lies {
			continue
		}
		var some []api.Value
		for _, k := range columns {
			some = append(some, l[k])
		}
		want = append(want, some)
	}
	return want
}

// chunkOf encodes a column of some rows.
func chunkOf(t *testing.T, table api.Table, rows [][]api.Value, column int, encoding int) string {
	t.Helper()
	var l []api.Value
	for _, r := range rows {
		l = append(l, r[column])
	}
	s, e := codec.Encode(l, table.Columns[column].Kind, encoding)
	if e != api.OK {
		t.Fatalf("P5: Encode(%v): %d", l, e)
	}
	return s
}
