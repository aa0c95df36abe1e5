// Package layout: files as bytes: which bytes of a file are what.
package layout

import (
	"strata/api"
	"strata/values"
)

// mark stands at both ends of a file.
const mark = "STRA"

// lengthBytes is how many bytes tell the length of the footer.
const lengthBytes = 4

// File is what a file holds, with its chunks as they are written.
type File struct {
	Columns   []api.Column
	Encodings []int // one for each column
	Bands     []Band
}

// Band is some rows of a file.
type Band struct {
	Rows   int
	Chunks []Chunk // one for each column
}

// Chunk is a column of a band.
type Chunk struct {
	Text   string
	Bounds Bounds
}

// Bounds are the least and the greatest value of a chunk, if they are there.
type Bounds struct {
	There           bool
	Least, Greatest api.Value
}

// Rows tells how many rows all bands have.
func (f File) Rows() int {
	rows := 0
	for _, band := range f.Bands {
		rows += band.Rows
	}
	return rows
}

// AreColumns tells whether a table may have these columns.
func AreColumns(columns []api.Column) bool {
	if len(columns) < 1 || len(columns) > api.MaxColumns {
		return false
	}
	for place, column := range columns {
		if !isColumn(column) || hasName(columns[:place], column.Name) {
			return false
		}
	}
	return true
}

func isColumn(column api.Column) bool {
	return len(column.Name) >= 1 && len(column.Name) <= api.MaxName && values.IsKind(column.Kind)
}

func hasName(columns []api.Column, name string) bool {
	for _, column := range columns {
		if column.Name == name {
			return true
		}
	}
	return false
}

// AreEncodings tells whether there is one for each column, which is one of its kind.
func AreEncodings(encodings []int, columns []api.Column) bool {
	if len(encodings) != len(columns) {
		return false
	}
	for place, column := range columns {
		if !values.HasEncoding(column.Kind, encodings[place]) {
			return false
		}
	}
	return true
}
