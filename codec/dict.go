package codec

import (
	"math/bits"

	"strata/api"
	"strata/wire"
)

// widthOf tells how many bits a place among size values wants.
func widthOf(size int) int {
	if size < 2 {
		return 0
	}
	return bits.Len(uint(size - 1))
}

func appendDict(b []byte, l []api.Value, kind int) []byte {
	var entries []api.Value
	placeOf := map[api.Value]int{}
	places := make([]int, 0, len(l))
	for _, v := range l {
		place, known := placeOf[v]
		if !known {
			place = len(entries)
			placeOf[v] = place
			entries = append(entries, v)
		}
		places = append(places, place)
	}
	b = wire.AppendNumber(b, len(entries))
	b = appendPlain(b, entries, kind)
	return appendPacked(b, places, widthOf(len(entries)))
}

func readDict(r *wire.Reader, kind int, count int) []api.Value {
	entries := readEntries(r, kind, count)
	places := readPacked(r, widthOf(len(entries)), count)
	checkPlaces(r, places, len(entries))
	l := make([]api.Value, 0, count)
	for _, place := range places {
		l = append(l, entries[place])
	}
	return l
}

// readEntries reads a dictionary of count values.
func readEntries(r *wire.Reader, kind int, count int) []api.Value {
	size := r.Number()
	// A size is held against the count ahead of being read: it may be huge.
	if size > count {
		r.GiveUp()
	}
	entries := readPlain(r, kind, size)
	placeOf := map[api.Value]int{}
	for place, v := range entries {
		if _, known := placeOf[v]; known {
			r.GiveUp()
		}
		placeOf[v] = place
	}
	return entries
}

// checkPlaces gives up unless every entry is used, and they come first in their order.
func checkPlaces(r *wire.Reader, places []int, size int) {
	seen := 0
	for _, place := range places {
		if place > seen || place >= size {
			r.GiveUp()
		}
		if place == seen {
			seen++
		}
	}
	if seen < size {
		r.GiveUp()
	}
}
