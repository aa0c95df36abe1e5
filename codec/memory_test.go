package codec

import (
	"slices"
	"testing"

	"strata/api"
)

func TestNothingHandedInIsChanged(t *testing.T) {
	room := []int{1, 2, 3, 77, 77}
	if _, e := Pack(room[:3], 2); e != api.OK || !slices.Equal(room, []int{1, 2, 3, 77, 77}) {
		t.Errorf("P2: Pack changed what it was given: %v", room)
	}
	for _, c := range columns() {
		room := append(slices.Clone(c.l), api.Value{N: 77}, api.Value{S: "spare"})
		before := slices.Clone(room)
		if _, e := Encode(room[:len(c.l)], c.kind, c.encoding); e != api.OK || !slices.Equal(room, before) {
			t.Errorf("P2: Encode(%d, %d) changed what it was given: %v", c.kind, c.encoding, room)
		}
	}
}

func TestAnswersShareNoRoom(t *testing.T) {
	first, _ := Unpack("\x39", 2, 3)
	second, _ := Unpack("\x39", 2, 3)
	clear(first[:cap(first)])
	if !slices.Equal(second, []int{1, 2, 3}) {
		t.Errorf("P2: two answers of Unpack share room: %v", second)
	}
	for _, c := range columns() {
		first, _ := Decode(c.s, c.kind, c.encoding, len(c.l))
		second, _ := Decode(c.s, c.kind, c.encoding, len(c.l))
		clear(first[:cap(first)])
		if !slices.Equal(second, c.l) {
			t.Errorf("P2: two answers of Decode share room: %v", second)
		}
	}
}
