package layout

import (
	"strata/values"
	"strata/wire"
)

// Join writes a file.
func Join(f File) string {
	b := []byte(mark)
	for _, band := range f.Bands {
		for _, chunk := range band.Chunks {
			b = append(b, chunk.Text...)
		}
	}
	footer := appendFooter(nil, f)
	b = append(b, footer...)
	b = appendLength(b, len(footer))
	return string(append(b, mark...))
}

func appendLength(b []byte, length int) []byte {
	for range lengthBytes {
		b = append(b, byte(length))
		length >>= 8
	}
	return b
}

func appendFooter(b []byte, f File) []byte {
	b = wire.AppendNumber(b, len(f.Columns))
	for place, column := range f.Columns {
		b = wire.AppendNumber(b, len(column.Name))
		b = append(b, column.Name...)
		b = append(b, byte(column.Kind), byte(f.Encodings[place]))
	}
	b = wire.AppendNumber(b, len(f.Bands))
	for _, band := range f.Bands {
		b = wire.AppendNumber(b, band.Rows)
		for place, chunk := range band.Chunks {
			b = wire.AppendNumber(b, len(chunk.Text))
			b = appendBounds(b, chunk.Bounds, f.Columns[place].Kind)
		}
	}
	return b
}

func appendBounds(b []byte, bounds Bounds, kind int) []byte {
	if !bounds.There {
		return append(b, 0)
	}
	b = append(b, 1)
	b = values.AppendPlain(b, bounds.Least, kind)
	return values.AppendPlain(b, bounds.Greatest, kind)
}
