package strata

import (
	"slices"
	"strings"

	"strata/api"
	"strata/layout"
	"strata/values"
)

// question is what is asked of a file, and is known to fit it. It shares nothing with what was handed in.
type question struct {
	file    layout.File
	columns []int
	ranges  []api.Range
	skip    bool
}

// ask finds every fault that shows without a look into the chunks.
func ask(text string, columns []int, ranges []api.Range, skip bool) (question, api.Errno) {
	file, ok := layout.Part(text)
	if !ok {
		return question{}, api.ErrBytes
	}
	q := question{file: file, columns: columns, ranges: ranges, skip: skip}
	if !q.hasColumns() {
		return question{}, api.ErrColumn
	}
	if !q.hasRanges() {
		return question{}, api.ErrRange
	}
	q.columns, q.ranges = slices.Clone(columns), copyRanges(ranges)
	return q, api.OK
}

func copyRanges(ranges []api.Range) []api.Range {
	copies := slices.Clone(ranges)
	for place, r := range copies {
		copies[place].Low.S = strings.Clone(r.Low.S)
		copies[place].High.S = strings.Clone(r.High.S)
	}
	return copies
}

func (q question) hasColumns() bool {
	for _, column := range q.columns {
		if !q.hasColumn(column) {
			return false
		}
	}
	for _, r := range q.ranges {
		if !q.hasColumn(r.Column) {
			return false
		}
	}
	return true
}

func (q question) hasColumn(column int) bool {
	return column >= 0 && column < len(q.file.Columns)
}

// hasRanges is asked where the columns of all ranges are there.
func (q question) hasRanges() bool {
	for _, r := range q.ranges {
		kind := q.file.Columns[r.Column].Kind
		if !values.MayBe(r.Low, kind) || !values.MayBe(r.High, kind) {
			return false
		}
	}
	return true
}

// wanted tells for each column whether it is to be decoded.
func (q question) wanted() []bool {
	wanted := make([]bool, len(q.file.Columns))
	for _, column := range q.columns {
		wanted[column] = true
	}
	for _, r := range q.ranges {
		wanted[r.Column] = true
	}
	return wanted
}

// giveRows goes through the bands and gives yield their rows, until it answers false or a band is bad; it tells how many bands were decoded.
func (q question) giveRows(yield func(number int, row []api.Value) bool) (bands int, e api.Errno) {
	wanted := q.wanted()
	first := 0
	for _, band := range q.file.Bands {
		if !q.skip || !q.isOutside(band) {
			bands++
			lists, ok := decodeBand(band, q.file, wanted)
			if !ok {
				return bands, api.ErrBytes
			}
			if !q.giveBand(lists, first, band.Rows, yield) {
				return bands, api.OK
			}
		}
		first += band.Rows
	}
	return bands, api.OK
}

// giveBand gives yield a band's rows, of which the first one has this number; it answers false, if yield did.
func (q question) giveBand(lists [][]api.Value, first int, count int, yield func(number int, row []api.Value) bool) bool {
	for place := range count {
		if q.liesIn(lists, place) && !yield(first+place, q.rowAt(lists, place)) {
			return false
		}
	}
	return true
}

// isOutside tells whether bounds show that no row of the band lies in the ranges.
func (q question) isOutside(band layout.Band) bool {
	for _, r := range q.ranges {
		bounds := band.Chunks[r.Column].Bounds
		if bounds.There && (isBelow(bounds.Greatest, r.Low) || isAbove(bounds.Least, r.High)) {
			return true
		}
	}
	return false
}

// liesIn takes the band's lists of values, one for each column that is wanted.
func (q question) liesIn(lists [][]api.Value, place int) bool {
	for _, r := range q.ranges {
		v := lists[r.Column][place]
		if v.Null || isBelow(v, r.Low) || isAbove(v, r.High) {
			return false
		}
	}
	return true
}

func (q question) rowAt(lists [][]api.Value, place int) []api.Value {
	row := make([]api.Value, 0, len(q.columns))
	for _, column := range q.columns {
		row = append(row, lists[column][place])
	}
	return row
}

// isBelow: nothing is below a Null.
func isBelow(v api.Value, low api.Value) bool {
	return !low.Null && values.Compare(v, low) < 0
}

// isAbove: nothing is above a Null.
func isAbove(v api.Value, high api.Value) bool {
	return !high.Null && values.Compare(v, high) > 0
}
