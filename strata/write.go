package strata

import (
	"strata/api"
	"strata/codec"
	"strata/layout"
	"strata/values"
)

func isTable(t api.Table) bool {
	if !layout.AreColumns(t.Columns) || len(t.Rows) > api.MaxRows {
		return false
	}
	for _, row := range t.Rows {
		if !isRow(row, t.Columns) {
			return false
		}
	}
	return true
}

func isRow(row []api.Value, columns []api.Column) bool {
	if len(row) != len(columns) {
		return false
	}
	for place, column := range columns {
		if !values.MayBe(row[place], column.Kind) {
			return false
		}
	}
	return true
}

func areOptions(o api.Options, columns []api.Column) bool {
	return o.Band >= 1 && o.Band <= api.MaxBand && layout.AreEncodings(o.Encodings, columns)
}

// fileOf parts a table into bands, by options that fit it.
func fileOf(t api.Table, o api.Options) layout.File {
	f := layout.File{Columns: t.Columns, Encodings: o.Encodings}
	for from := 0; from < len(t.Rows); from += o.Band {
		to := min(from+o.Band, len(t.Rows))
		f.Bands = append(f.Bands, bandOf(t.Rows[from:to], t.Columns, o))
	}
	return f
}

func bandOf(rows [][]api.Value, columns []api.Column, o api.Options) layout.Band {
	band := layout.Band{Rows: len(rows)}
	for place, column := range columns {
		list := columnOf(rows, place)
		// Table and options are known to be right, so Encode has nothing to find fault with.
		text, _ := codec.Encode(list, column.Kind, o.Encodings[place])
		chunk := layout.Chunk{Text: text}
		if o.Bounds {
			chunk.Bounds = boundsOf(list)
		}
		band.Chunks = append(band.Chunks, chunk)
	}
	return band
}

func columnOf(rows [][]api.Value, place int) []api.Value {
	list := make([]api.Value, 0, len(rows))
	for _, row := range rows {
		list = append(list, row[place])
	}
	return list
}

// boundsOf answers no bounds, if all values are Null.
func boundsOf(list []api.Value) layout.Bounds {
	var bounds layout.Bounds
	for _, v := range list {
		if v.Null {
			continue
		}
		if !bounds.There || values.Compare(v, bounds.Least) < 0 {
			bounds.Least = v
		}
		if !bounds.There || values.Compare(v, bounds.Greatest) > 0 {
			bounds.Greatest = v
		}
		bounds.There = true
	}
	return bounds
}
