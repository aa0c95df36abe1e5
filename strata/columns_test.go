package strata

import (
	"slices"
	"strings"
	"testing"

	"strata/api"
)

// holdNoFile fails unless Columns, Scan and Open find that s is no file, ahead of any other fault.
func holdNoFile(t *testing.T, why string, s string) {
	t.Helper()
	if columns, rows, e := Columns(s); columns != nil || rows != 0 || e != api.ErrBytes {
		t.Errorf("P9: %s: Columns(%q) = %v, %d, %d, want ErrBytes", why, s, columns, rows, e)
	}
	for _, skip := range []bool{false, true} {
		ranges := []api.Range{from(99, null, word("a"))}
		if rows, e := Scan(s, []int{-1}, ranges, skip); rows != nil || e != api.ErrBytes {
			t.Errorf("P10: %s: Scan(%q) = %v, %d, want ErrBytes", why, s, rows, e)
		}
		if c, e := Open(s, []int{-1}, ranges, skip); c != nil || e != api.ErrBytes {
			t.Errorf("P11: %s: Open(%q) = %v, %d, want ErrBytes", why, s, c, e)
		}
	}
}

func holdFile(t *testing.T, why string, s string, columns []api.Column, rows int) {
	t.Helper()
	if l, n, e := Columns(s); !slices.Equal(l, columns) || n != rows || e != api.OK {
		t.Errorf("P9: %s: Columns(%q) = %v, %d, %d, want %v, %d", why, s, l, n, e, columns, rows)
	}
}

func TestColumns(t *testing.T) {
	holdFile(t, "example 4", write(t, example, exampleOptions), example.Columns, 2)
	for band := 1; band <= 6; band++ {
		for _, bounds := range []bool{false, true} {
			s := write(t, mixed, api.Options{Band: band, Encodings: []int{api.Dict, api.Runs, api.Plain}, Bounds: bounds})
			holdFile(t, "bands", s, mixed.Columns, 5)
		}
	}
	columns, o := columnsOf(api.MaxColumns)
	for i := range columns {
		columns[i].Name = strings.Repeat(columns[i].Name, api.MaxName)
	}
	holdFile(t, "MaxColumns and MaxName", write(t, api.Table{Columns: columns}, o), columns, 0)
}

var chunks = octets(1, 1, 14, 1, 0)

var head = octets(1, 1, 'x', 1, 0)

func TestFooters(t *testing.T) {
	x := []api.Column{{Name: "x", Kind: api.Int}}
	b := []api.Column{{Name: "x", Kind: api.Bool}}
	s := []api.Column{{Name: "x", Kind: api.Text}}
	full := strings.Repeat("t", api.MaxText)
	for _, c := range []struct {
		why            string
		chunks, footer string
		columns        []api.Column // nil: it is no file
		rows           int
	}{
		{"two bands", chunks, head + octets(2, 1, 3, 1, 14, 14, 1, 2, 0), x, 2},
		{"one band of both chunks' bytes", chunks, head + octets(1, 1, 5, 0), x, 1},
		{"bands of other sizes", chunks, head + octets(3, 100, 2, 0, 1, 0, 0, 7, 3, 0), x, 108},
		{"no bands", "", head + octets(0), x, 0},
		{"a chunk without bytes", "", head + octets(1, 9, 0, 0), x, 9},
		{"bounds that are not true", chunks, head + octets(2, 1, 3, 1, 20, 24, 1, 2, 0), x, 2},
		{"bounds of Nulls", chunks, head + octets(2, 1, 3, 1, 14, 14, 1, 2, 1, 0, 0), x, 2},
		{"bounds below 0", "", head + octets(1, 1, 0, 1, 3, 1), x, 1},
		{"bounds from below 0 to above", "", head + octets(1, 1, 0, 1, 1, 0), x, 1},
		{"bounds of a Bool", "", octets(1, 1, 'x', 2, 3, 1, 1, 0, 1, 0, 1), b, 1},
		{"bounds of a Text", "", octets(1, 1, 'x', 3, 2, 1, 1, 0, 1, 1, 'a', 2, 'a', 'b'), s, 1},
		{"bounds of MaxText bytes", "", octets(1, 1, 'x', 3, 2, 1, 1, 0, 1, 0, api.MaxText) + full, s, 1},
		{"the letters STRA in a chunk", "STRA", head + octets(1, 1, 4, 0), x, 1},
		{"chunks that are nothing", "\xff\xff\xff", head + octets(2, 1, 1, 0, 1, 2, 0), x, 2},

		{"no footer", "", "", nil, 0},
		{"no columns", "", octets(0, 0), nil, 0},
		{"MaxColumns + 1 columns", "", octets(9) + "\x01a\x01\x00\x01b\x01\x00\x01c\x01\x00\x01d\x01\x00\x01e\x01\x00\x01f\x01\x00\x01g\x01\x00\x01h\x01\x00\x01i\x01\x00" + octets(0), nil, 0},
		{"2^31 - 1 columns", "", octets(255, 255, 255, 255, 7) + head[1:] + octets(0), nil, 0},
		{"a column too few", "", octets(2) + head[1:] + octets(0), nil, 0},
		{"no name", "", octets(1, 0, 1, 0, 0), nil, 0},
		{"MaxName + 1 bytes of name", "", octets(1, 17) + strings.Repeat("n", 17) + octets(1, 0, 0), nil, 0},
		{"a name behind the end", "", octets(1, 16, 'x', 1, 0, 0), nil, 0},
		{"a name of 2^31 - 1 bytes", "", octets(1, 255, 255, 255, 255, 7, 'x', 1, 0, 0), nil, 0},
		{"a name twice", "", octets(2) + head[1:] + head[1:] + octets(0), nil, 0},
		{"the kind 0", "", octets(1, 1, 'x', 0, 0, 0), nil, 0},
		{"the kind 4", "", octets(1, 1, 'x', 4, 0, 0), nil, 0},
		{"the encoding 4", "", octets(1, 1, 'x', 1, 4, 0), nil, 0},
		{"Runs of an Int", "", octets(1, 1, 'x', 1, 3, 0), nil, 0},
		{"Delta of a Bool", "", octets(1, 1, 'x', 2, 1, 0), nil, 0},
		{"Delta of a Text", "", octets(1, 1, 'x', 3, 1, 0), nil, 0},
		{"Runs of a Text", "", octets(1, 1, 'x', 3, 3, 0), nil, 0},
		{"no number of bands", "", head, nil, 0},
		{"a byte behind the bands", "", head + octets(0, 0), nil, 0},
		{"a byte ahead of the columns", "", octets(0) + head + octets(0), nil, 0},
		{"a band too few", chunks, head + octets(2, 1, 5, 0), nil, 0},
		{"a band too many", chunks, head + octets(1, 1, 3, 0, 1, 2, 0), nil, 0},
		{"2^31 - 1 bands", "", head + octets(255, 255, 255, 255, 7, 1, 0, 0), nil, 0},
		{"2^31 bands", "", head + octets(128, 128, 128, 128, 8), nil, 0},
		{"a band of no rows", "", head + octets(1, 0, 0, 0), nil, 0},
		{"a band of MaxBand + 1 rows", "", head + octets(1, 101, 0, 0), nil, 0},
		{"a band of 2^31 rows and 1", "", head + octets(1, 129, 128, 128, 128, 8, 0, 0), nil, 0},
		{"a band without its chunk", "", head + octets(1, 1), nil, 0},
		{"a chunk without its bounds", "", head + octets(1, 1, 0), nil, 0},
		{"chunks that end early", chunks, head + octets(2, 1, 3, 0, 1, 1, 0), nil, 0},
		{"chunks that end late", chunks, head + octets(2, 1, 3, 0, 1, 3, 0), nil, 0},
		{"a byte of no chunk", "x", head + octets(0), nil, 0},
		{"a chunk of 2^31 - 1 bytes", chunks, head + octets(1, 1, 255, 255, 255, 255, 7, 0), nil, 0},
		{"chunks of 2^32 + 5 bytes", chunks, head + octets(3, 1, 255, 255, 255, 255, 7, 0, 1, 255, 255, 255, 255, 7, 0, 1, 7, 0), nil, 0},
		{"the least above the greatest", "", head + octets(1, 1, 0, 1, 14, 12), nil, 0},
		{"0 above -1", "", head + octets(1, 1, 0, 1, 0, 1), nil, 0},
		{"a Bool's least above", "", octets(1, 1, 'x', 2, 0, 1, 1, 0, 1, 1, 0), nil, 0},
		{"a Text's least above", "", octets(1, 1, 'x', 3, 0, 1, 1, 0, 1, 2, 'a', 'b', 1, 'a'), nil, 0},
		{"bounds by the byte 2", "", head + octets(1, 1, 0, 2, 14, 14), nil, 0},
		{"bounds by the byte 255", "", head + octets(1, 1, 0, 255, 14, 14), nil, 0},
		{"no greatest", "", head + octets(1, 1, 0, 1, 14), nil, 0},
		{"bounds that are not there", "", head + octets(1, 1, 0, 0, 14, 14), nil, 0},
		{"2 as a Bool's bound", "", octets(1, 1, 'x', 2, 0, 1, 1, 0, 1, 0, 2), nil, 0},
		{"a bound of MaxText + 1 bytes", "", octets(1, 1, 'x', 3, 0, 1, 1, 0, 1, 0, 33) + full + "t", nil, 0},
		{"a bound of 65 bits", "", head + octets(1, 1, 0, 1, 0, 254, 255, 255, 255, 255, 255, 255, 255, 255, 2), nil, 0},
	} {
		if c.columns == nil {
			holdNoFile(t, c.why, wrap(c.chunks, c.footer))
		} else {
			holdFile(t, c.why, wrap(c.chunks, c.footer), c.columns, c.rows)
		}
	}
}

// TestLongerNumbers: one byte more than a number wants, at each number of a footer.
func TestLongerNumbers(t *testing.T) {
	footer := octets(1, 1, 'x', 1, 0, 2, 1, 3, 1, 14, 14, 1, 2, 0)
	for _, at := range []int{0, 1, 5, 6, 7, 9, 10, 11, 12} {
		longer := footer[:at] + octets(int(footer[at])+128, 0) + footer[at+1:]
		holdNoFile(t, "a needless byte", wrap(chunks, longer))
	}
	text := octets(1, 1, 'x', 3, 0, 1, 1, 0, 1, 1, 'a', 1, 'b')
	holdFile(t, "a Text", wrap("", text), []api.Column{{Name: "x", Kind: api.Text}}, 1)
	for _, at := range []int{9, 11} {
		longer := text[:at] + octets(int(text[at])+128, 0) + text[at+1:]
		holdNoFile(t, "a needless byte of a bound's length", wrap("", longer))
	}
	// Kinds, encodings and whether bounds are there are bytes, no numbers.
	for _, at := range []int{3, 4, 8, 13} {
		other := footer[:at] + octets(int(footer[at])+128) + footer[at+1:]
		holdNoFile(t, "another byte", wrap(chunks, other))
	}
}

func TestMarksAndLengths(t *testing.T) {
	foot := head + octets(0)
	holdFile(t, "a small file", "STRA"+foot+octets(6, 0, 0, 0)+"STRA", example.Columns, 0)
	for why, s := range map[string]string{
		"nothing":                            "",
		"a mark alone":                       "STRA",
		"marks that overlap":                 "STRASTRA"[:7],
		"two marks alone":                    "STRASTRA",
		"no footer, in three bytes":          "STRA" + octets(0, 0, 0) + "STRA",
		"no footer":                          "STRA" + octets(0, 0, 0, 0) + "STRA",
		"a first mark that is the length":    "STRA" + "STRA",
		"a footer that begins in the mark":   "STRA" + foot + octets(7, 0, 0, 0) + "STRA",
		"a footer that is the mark too":      "STRA" + foot + octets(10, 0, 0, 0) + "STRA",
		"a footer longer than all":           "STRA" + foot + octets(11, 0, 0, 0) + "STRA",
		"a footer of 2^32 - 1 bytes":         "STRA" + foot + octets(255, 255, 255, 255) + "STRA",
		"a footer of 2^31 bytes":             "STRA" + foot + octets(0, 0, 0, 128) + "STRA",
		"a length in the second byte":        "STRA" + foot + octets(6, 1, 0, 0) + "STRA",
		"a length in the third byte":         "STRA" + foot + octets(6, 0, 1, 0) + "STRA",
		"a length in the last byte":          "STRA" + foot + octets(6, 0, 0, 1) + "STRA",
		"a length with the highest first":    "STRA" + foot + octets(0, 0, 0, 6) + "STRA",
		"a footer that is cut off in front":  "STRA" + foot + octets(5, 0, 0, 0) + "STRA",
		"another first mark":                 "STRB" + foot + octets(6, 0, 0, 0) + "STRA",
		"another last mark":                  "STRA" + foot + octets(6, 0, 0, 0) + "STRB",
		"small letters":                      "stra" + foot + octets(6, 0, 0, 0) + "stra",
		"no first mark":                      foot + octets(6, 0, 0, 0) + "STRA",
		"no last mark":                       "STRA" + foot + octets(6, 0, 0, 0),
		"a byte ahead":                       "xSTRA" + foot + octets(6, 0, 0, 0) + "STRA",
		"a byte behind":                      "STRA" + foot + octets(6, 0, 0, 0) + "STRAx",
		"a byte between length and mark":     "STRA" + foot + octets(6, 0, 0, 0) + "xSTRA",
		"a byte between footer and length":   "STRA" + foot + "x" + octets(6, 0, 0, 0) + "STRA",
		"a byte between mark and footer":     "STRAx" + foot + octets(6, 0, 0, 0) + "STRA",
		"a file twice":                       strings.Repeat("STRA"+foot+octets(6, 0, 0, 0)+"STRA", 2),
		"a file's mark for the footer's end": "STRA" + foot + "STRA",
	} {
		holdNoFile(t, why, s)
	}
}

func TestCutFiles(t *testing.T) {
	s := write(t, mixed, api.Options{Band: 2, Encodings: []int{api.Dict, api.Runs, api.Plain}, Bounds: true})
	for cut := range len(s) {
		holdNoFile(t, "cut off behind", s[:cut])
		holdNoFile(t, "a byte taken out", s[:cut]+s[cut+1:])
		holdNoFile(t, "a byte put in", s[:cut]+"x"+s[cut:])
		if cut > 0 {
			holdNoFile(t, "cut off in front", s[cut:])
		}
	}
}

func TestSizeOfFiles(t *testing.T) {
	for size, ok := range map[int]bool{api.MaxFile: true, api.MaxFile + 1: false} {
		length := size - len(wrap("", head+octets(1, 1)+varint(api.MaxFile)+octets(0)))
		s := wrap(strings.Repeat("c", length), head+octets(1, 1)+varint(length)+octets(0))
		if len(s) != size {
			t.Fatalf("a file of %d bytes, not of %d", len(s), size)
		}
		if ok {
			holdFile(t, "MaxFile bytes", s, example.Columns, 1)
		} else {
			holdNoFile(t, "MaxFile + 1 bytes", s)
		}
	}
}

func TestRowsOfFiles(t *testing.T) {
	holdFile(t, "MaxRows rows", wrap("", head+octets(20)+strings.Repeat(octets(100, 0, 0), 20)), example.Columns, api.MaxRows)
	holdFile(t, "MaxRows bands", wrap("", head+varint(2000)+strings.Repeat(octets(1, 0, 0), 2000)), example.Columns, api.MaxRows)
	holdNoFile(t, "MaxRows + 1 rows", wrap("", head+octets(21)+strings.Repeat(octets(100, 0, 0), 20)+octets(1, 0, 0)))
	holdNoFile(t, "MaxRows + 1 bands", wrap("", head+varint(2001)+strings.Repeat(octets(1, 0, 0), 2001)))
}
