package layout

import (
	"strings"

	"strata/api"
	"strata/values"
	"strata/wire"
)

// Part parts a text into what it holds; not ok, if it is no file. Nothing that it answers is a piece of the text.
func Part(text string) (File, bool) {
	chunks, footer, ok := cut(text)
	if !ok {
		return File{}, false
	}
	return wire.ReadWhole(footer, func(r *wire.Reader) File {
		return readFooter(r, wire.NewReader(strings.Clone(chunks)))
	})
}

// cut cuts all chunks and the footer out of a text.
func cut(text string) (chunks string, footer string, ok bool) {
	if len(text) > api.MaxFile {
		return "", "", false
	}
	// The mark at the end is looked for in what the first one leaves: the two do not overlap.
	inner, begins := strings.CutPrefix(text, mark)
	inner, ends := strings.CutSuffix(inner, mark)
	end := len(inner) - lengthBytes
	if !begins || !ends || end < 0 {
		return "", "", false
	}
	length := readLength(inner[end:])
	if length > uint64(end) {
		return "", "", false
	}
	begin := end - int(length)
	return inner[:begin], inner[begin:end], true
}

func readLength(s string) uint64 {
	var length uint64
	for place := range lengthBytes {
		length |= uint64(s[place]) << (8 * place)
	}
	return length
}

// readFooter reads the footer by r, and takes the chunks that it tells of.
func readFooter(r *wire.Reader, chunks *wire.Reader) File {
	columns, encodings := readColumns(r)
	f := File{Columns: columns, Encodings: encodings}
	for range r.Number() {
		f.Bands = append(f.Bands, readBand(r, chunks, columns))
	}
	if f.Rows() > api.MaxRows {
		r.GiveUp()
	}
	chunks.End()
	return f
}

func readColumns(r *wire.Reader) (columns []api.Column, encodings []int) {
	for range r.Number() {
		// A piece of the text that is read would keep the whole of it alive.
		name := strings.Clone(r.Take(r.Number()))
		columns = append(columns, api.Column{Name: name, Kind: int(r.Byte())})
		encodings = append(encodings, int(r.Byte()))
	}
	if !AreColumns(columns) || !AreEncodings(encodings, columns) {
		r.GiveUp()
	}
	return columns, encodings
}

func readBand(r *wire.Reader, chunks *wire.Reader, columns []api.Column) Band {
	band := Band{Rows: r.Number()}
	if band.Rows < 1 || band.Rows > api.MaxBand {
		r.GiveUp()
	}
	for _, column := range columns {
		text := chunks.Take(r.Number())
		band.Chunks = append(band.Chunks, Chunk{Text: text, Bounds: readBounds(r, column.Kind)})
	}
	return band
}

func readBounds(r *wire.Reader, kind int) Bounds {
	if r.Bit() == 0 {
		return Bounds{}
	}
	least := values.ReadPlain(r, kind)
	greatest := values.ReadPlain(r, kind)
	if values.Compare(least, greatest) > 0 {
		r.GiveUp()
	}
	return Bounds{There: true, Least: least, Greatest: greatest}
}
