// Package values: what a value of a kind may be, and single values as bytes.
package values

import (
	"cmp"
	"strings"

	"strata/api"
	"strata/wire"
)

// IsKind tells whether there is such a kind.
func IsKind(kind int) bool {
	return kind >= api.Int && kind <= api.Text
}

// HasEncoding tells whether there is such a kind, and the encoding is one of it.
func HasEncoding(kind int, encoding int) bool {
	switch encoding {
	case api.Plain, api.Dict:
		return IsKind(kind)
	case api.Delta:
		return kind == api.Int
	case api.Runs:
		return kind == api.Bool
	}
	return false
}

// MayBe tells whether v may be of the kind.
func MayBe(v api.Value, kind int) bool {
	if v.Null {
		return IsKind(kind) && v.N == 0 && v.S == ""
	}
	switch kind {
	case api.Int:
		return v.S == ""
	case api.Bool:
		return (v.N == 0 || v.N == 1) && v.S == ""
	case api.Text:
		return v.N == 0 && len(v.S) <= api.MaxText
	}
	return false
}

// Compare tells whether a is less than b (below 0), alike, or greater (above 0): two values of one kind, not Null.
func Compare(a api.Value, b api.Value) int {
	// Numbers have no text, and texts no number: of one kind only one of the two can differ.
	return cmp.Or(cmp.Compare(a.N, b.N), strings.Compare(a.S, b.S))
}

// AppendPlain appends v, which is not Null and may be of the kind, as Plain.
func AppendPlain(b []byte, v api.Value, kind int) []byte {
	switch kind {
	case api.Int:
		return wire.AppendVarint(b, wire.Zigzag(int64(v.N)))
	case api.Bool:
		return append(b, byte(v.N))
	}
	b = wire.AppendNumber(b, len(v.S))
	return append(b, v.S...)
}

// ReadPlain reads what AppendPlain appended; it panics as r does.
func ReadPlain(r *wire.Reader, kind int) api.Value {
	switch kind {
	case api.Int:
		return api.Value{N: int(wire.Unzigzag(r.Varint()))}
	case api.Bool:
		return api.Value{N: r.Bit()}
	}
	return api.Value{S: readText(r)}
}

func readText(r *wire.Reader) string {
	length := r.Number()
	if length > api.MaxText {
		r.GiveUp()
	}
	// A piece of the text that is read would keep the whole of it alive.
	return strings.Clone(r.Take(length))
}
