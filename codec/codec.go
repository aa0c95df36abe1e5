// Package codec: columns as bytes: see DOC.md.
package codec

import (
	"strata/api"
	"strata/values"
	"strata/wire"
)

// maxWidth is how many bits a packed number has at most.
const maxWidth = 16

// Pack packs numbers of so many bits (P4).
func Pack(l []int, width int) (string, api.Errno) {
	if e := checkPacking(len(l), width); e != api.OK {
		return "", e
	}
	for _, n := range l {
		if n < 0 || n >= 1<<width {
			return "", api.ErrTable
		}
	}
	return string(appendPacked(nil, l, width)), api.OK
}

// Unpack unpacks them (P4).
func Unpack(s string, width int, count int) ([]int, api.Errno) {
	if e := checkPacking(count, width); e != api.OK {
		return nil, e
	}
	return readWhole(s, func(r *wire.Reader) []int {
		return readPacked(r, width, count)
	})
}

// Encode writes a column's values (P5, P6).
func Encode(l []api.Value, kind int, encoding int) (string, api.Errno) {
	if e := checkColumn(len(l), kind, encoding); e != api.OK {
		return "", e
	}
	for _, v := range l {
		if !values.MayBe(v, kind) {
			return "", api.ErrTable
		}
	}
	return string(appendColumn(nil, l, kind, encoding)), api.OK
}

// Decode reads them (P5, P6).
func Decode(s string, kind int, encoding int, count int) ([]api.Value, api.Errno) {
	if e := checkColumn(count, kind, encoding); e != api.OK {
		return nil, e
	}
	return readWhole(s, func(r *wire.Reader) []api.Value {
		return readColumn(r, kind, encoding, count)
	})
}

func checkCount(count int) api.Errno {
	if count < 0 || count > api.MaxBand {
		return api.ErrLong
	}
	return api.OK
}

func checkPacking(count int, width int) api.Errno {
	if e := checkCount(count); e != api.OK {
		return e
	}
	if width < 0 || width > maxWidth {
		return api.ErrOptions
	}
	return api.OK
}

func checkColumn(count int, kind int, encoding int) api.Errno {
	if e := checkCount(count); e != api.OK {
		return e
	}
	if !values.HasEncoding(kind, encoding) {
		return api.ErrOptions
	}
	return api.OK
}

// readWhole answers what read makes of all bytes of s.
func readWhole[T any](s string, read func(r *wire.Reader) []T) ([]T, api.Errno) {
	l, ok := wire.ReadWhole(s, read)
	if !ok {
		return nil, api.ErrBytes
	}
	return l, api.OK
}
