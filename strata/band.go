package strata

import (
	"strata/api"
	"strata/codec"
	"strata/layout"
)

// decodeBand decodes the columns of a band that are wanted, all at once, and answers one list for each column (nil, if it is not wanted); not ok, if a chunk is not what it must be.
func decodeBand(band layout.Band, file layout.File, wanted []bool) (lists [][]api.Value, ok bool) {
	channels := make([]chan api.Value, len(wanted))
	for column := range wanted {
		if wanted[column] {
			channels[column] = make(chan api.Value, band.Rows)
			go sendColumn(channels[column], band, file, column)
		}
	}
	lists = make([][]api.Value, len(wanted))
	ok = true
	// Also behind a bad chunk every channel is gone through: its goroutine has ended when it is closed.
	for column := range wanted {
		if wanted[column] {
			lists[column] = collect(channels[column], band.Rows)
			ok = ok && len(lists[column]) == band.Rows
		}
	}
	return lists, ok
}

// sendColumn sends all values of a chunk, or none, if it is not what it must be.
func sendColumn(to chan<- api.Value, band layout.Band, file layout.File, column int) {
	defer close(to)
	list, e := codec.Decode(band.Chunks[column].Text, file.Columns[column].Kind, file.Encodings[column], band.Rows)
	if e != api.OK {
		return
	}
	for _, v := range list {
		to <- v
	}
}

func collect(from <-chan api.Value, count int) []api.Value {
	list := make([]api.Value, 0, count)
	for v := range from {
		list = append(list, v)
	}
	return list
}
