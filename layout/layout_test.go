package layout

import (
	"math/rand"
	"reflect"
	"strings"
	"testing"

	"strata/api"
	"strata/wire"
)

func TestAreColumns(t *testing.T) {
	x := api.Column{Name: "x", Kind: api.Int}
	several := func(count int) []api.Column {
		var l []api.Column
		for i := range count {
			l = append(l, api.Column{Name: string(rune('a' + i)), Kind: 1 + i%3})
		}
		return l
	}
	for _, c := range []struct {
		why     string
		columns []api.Column
		want    bool
	}{
		{"none", nil, false},
		{"one", several(1), true},
		{"MaxColumns", several(api.MaxColumns), true},
		{"one more", several(api.MaxColumns + 1), false},
		{"no name", []api.Column{{Kind: api.Int}}, false},
		{"a name of MaxName bytes", []api.Column{{Name: strings.Repeat("n", api.MaxName), Kind: api.Int}}, true},
		{"a name of one more", []api.Column{{Name: strings.Repeat("n", api.MaxName+1), Kind: api.Int}}, false},
		{"a name of MaxName bytes, but fewer runes", []api.Column{{Name: strings.Repeat("é", api.MaxName/2), Kind: api.Int}}, true},
		{"a name of more bytes, but fewer runes", []api.Column{{Name: strings.Repeat("é", api.MaxName/2+1), Kind: api.Int}}, false},
		{"a name that is no runes", []api.Column{{Name: "\xff\x00", Kind: api.Int}}, true},
		{"names in other letters", []api.Column{x, {Name: "X", Kind: api.Int}}, true},
		{"a name twice", []api.Column{x, {Name: "y", Kind: api.Bool}, {Name: "x", Kind: api.Text}}, false},
		{"a name twice at the end", []api.Column{{Name: "y", Kind: api.Bool}, x, x}, false},
		{"the kind 0", []api.Column{{Name: "x"}}, false},
		{"the kind 4", []api.Column{{Name: "x", Kind: 4}}, false},
		{"the kind -1", []api.Column{{Name: "x", Kind: -1}}, false},
		{"the kind 257", []api.Column{{Name: "x", Kind: 257}}, false},
		{"a last one that is none", []api.Column{x, {Name: "y"}}, false},
	} {
		if AreColumns(c.columns) != c.want {
			t.Errorf("P7, P9: columns, %s: %v", c.why, !c.want)
		}
	}
}

func TestAreEncodings(t *testing.T) {
	columns := []api.Column{{Name: "x", Kind: api.Int}, {Name: "b", Kind: api.Bool}, {Name: "t", Kind: api.Text}}
	for _, c := range []struct {
		encodings []int
		want      bool
	}{
		{[]int{api.Delta, api.Runs, api.Dict}, true}, {[]int{api.Plain, api.Plain, api.Plain}, true}, {[]int{api.Dict, api.Dict, api.Dict}, true},
		{nil, false}, {[]int{0, 0}, false}, {[]int{0, 0, 0, 0}, false},
		{[]int{api.Runs, 0, 0}, false}, {[]int{0, api.Delta, 0}, false}, {[]int{0, 0, api.Delta}, false}, {[]int{0, 0, api.Runs}, false},
		{[]int{0, 0, 4}, false}, {[]int{0, 0, -1}, false}, {[]int{256, 0, 0}, false},
	} {
		if AreEncodings(c.encodings, columns) != c.want {
			t.Errorf("P7, P9: encodings %v: %v", c.encodings, !c.want)
		}
	}
}

// sample is a file of several bands, of every kind, with bounds and without.
func sample() File {
	long := strings.Repeat("z", 300)
	return File{
		Columns:   []api.Column{{Name: "x", Kind: api.Int}, {Name: "flag", Kind: api.Bool}, {Name: strings.Repeat("n", api.MaxName), Kind: api.Text}},
		Encodings: []int{api.Delta, api.Runs, api.Dict},
		Bands: []Band{
			{Rows: api.MaxBand, Chunks: []Chunk{{Text: "one", Bounds: Bounds{true, api.Value{N: -70}, api.Value{N: 1 << 40}}}, {Text: ""}, {Text: long, Bounds: Bounds{true, api.Value{S: ""}, api.Value{S: strings.Repeat("t", api.MaxText)}}}}},
			{Rows: 1, Chunks: []Chunk{{Text: "two"}, {Text: "STRA", Bounds: Bounds{true, api.Value{N: 0}, api.Value{N: 1}}}, {Text: "\x00", Bounds: Bounds{true, api.Value{S: "same"}, api.Value{S: "same"}}}}},
			{Rows: 7, Chunks: []Chunk{{}, {}, {}}},
		},
	}
}

func TestJoinedIsParted(t *testing.T) {
	for _, f := range []File{sample(), {Columns: []api.Column{{Name: "x", Kind: api.Int}}, Encodings: []int{0}}} {
		if got, ok := Part(Join(f)); !ok || !reflect.DeepEqual(got, f) {
			t.Errorf("P8, P9: Part(Join(%v)) = %v, %v", f, got, ok)
		}
	}
	if rows := sample().Rows(); rows != api.MaxBand+8 {
		t.Errorf("P9: the sample has %d rows", rows)
	}
}

// spoil changes a byte, takes one out, or puts one in; most often behind the chunks.
func spoil(r *rand.Rand, s string) string {
	at := r.Intn(len(s))
	if r.Intn(4) > 0 {
		at = max(len(s)-1-r.Intn(150), 0)
	}
	drawn := string([]byte{byte(r.Intn(256))})
	if r.Intn(2) == 0 {
		drawn = string([]byte{byte(r.Intn(4))})
	}
	switch r.Intn(4) {
	case 0:
		return s[:at] + drawn + s[at:]
	case 1:
		return s[:at] + s[at+1:]
	}
	return s[:at] + drawn + s[at+1:]
}

// relength sets the length of the footer anew, so that what was put in or taken out is all that is wrong.
func relength(s string, change int) string {
	if len(s) < 12 {
		return s
	}
	end := len(s) - 8
	length := int(s[end]) + int(s[end+1])<<8 + change
	return s[:end] + string([]byte{byte(length), byte(length >> 8), 0, 0}) + s[end+4:]
}

// TestPartedIsJoined: a file is written in one way only.
func TestPartedIsJoined(t *testing.T) {
	r := rand.New(rand.NewSource(9))
	whole, files := Join(sample()), 0
	for range 60000 {
		s := whole
		for range 1 + r.Intn(3) {
			longer := spoil(r, s)
			s = relength(longer, len(longer)-len(s))
		}
		f, ok := Part(s)
		if !ok {
			if !reflect.DeepEqual(f, File{}) {
				t.Fatalf("P9: Part(%q) = %v beside an error", s, f)
			}
			continue
		}
		files++
		if again := Join(f); again != s {
			t.Fatalf("P9: Part(%q) = %v; Join of that: %q", s, f, again)
		}
		holdFile(t, f)
	}
	if files < 1000 {
		t.Errorf("only %d drawn texts were files", files)
	}
}

// holdFile fails if f breaks a bound that the document names.
func holdFile(t *testing.T, f File) {
	t.Helper()
	if !AreColumns(f.Columns) || !AreEncodings(f.Encodings, f.Columns) || f.Rows() > api.MaxRows {
		t.Fatalf("P9: a file with columns that may not be, or too many rows: %v", f)
	}
	for _, band := range f.Bands {
		if band.Rows < 1 || band.Rows > api.MaxBand || len(band.Chunks) != len(f.Columns) {
			t.Fatalf("P9: a file with a band that may not be: %v", f)
		}
	}
}

// TestNothingElsePanics: below the recover, footers are given up by Bad alone.
func TestNothingElsePanics(t *testing.T) {
	r := rand.New(rand.NewSource(10))
	footer := string(appendFooter(nil, sample()))
	given := 0
	for range 30000 {
		s := footer
		for range 1 + r.Intn(3) {
			s = spoil(r, s)
		}
		func() {
			defer func() {
				if p := recover(); p != nil {
					given++
					if _, ok := p.(wire.Bad); !ok {
						t.Fatalf("reading the footer %q panicked with %v", s, p)
					}
				}
			}()
			readFooter(wire.NewReader(s), wire.NewReader(strings.Repeat("c", 311)))
		}()
	}
	if given == 0 {
		t.Error("no drawn footer was given up")
	}
}

func TestPartsShareNoRoom(t *testing.T) {
	text := Join(sample())
	first, _ := Part(text)
	second, _ := Part(text)
	clear(first.Columns[:cap(first.Columns)])
	clear(first.Encodings[:cap(first.Encodings)])
	clear(first.Bands[:cap(first.Bands)])
	if !reflect.DeepEqual(second, sample()) {
		t.Errorf("P2: two answers of Part share room: %v", second)
	}
}

func TestTooMuch(t *testing.T) {
	one := func(text string, bands int) File {
		f := File{Columns: []api.Column{{Name: "x", Kind: api.Int}}, Encodings: []int{api.Plain}}
		for range bands {
			f.Bands = append(f.Bands, Band{Rows: api.MaxBand, Chunks: []Chunk{{Text: text}}})
		}
		return f
	}
	room := api.MaxFile - len(Join(one(strings.Repeat("c", 1<<14), 1))) + 1<<14
	for _, c := range []struct {
		why string
		f   File
		ok  bool
	}{
		{"MaxFile bytes", one(strings.Repeat("c", room), 1), true},
		{"one byte more", one(strings.Repeat("c", room+1), 1), false},
		{"MaxRows rows", one("", api.MaxRows/api.MaxBand), true},
		{"a band more", one("", api.MaxRows/api.MaxBand+1), false},
	} {
		if _, ok := Part(Join(c.f)); ok != c.ok {
			t.Errorf("P9: %s: %v", c.why, ok)
		}
	}
}
