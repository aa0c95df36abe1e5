package strata

import "strata/api"

// Cursor reads row by row.
type Cursor struct {
	question question
	bands    int // of the last ranging that has ended, as err is
	err      api.Errno
}

// Open opens a cursor (P11).
func Open(file string, columns []int, ranges []api.Range, skip bool) (*Cursor, api.Errno) {
	q, e := ask(file, columns, ranges, skip)
	if e != api.OK {
		return nil, e
	}
	return &Cursor{question: q}, api.OK
}

// Rows gives the rows, with their numbers, one by one (P11).
func (c *Cursor) Rows() func(yield func(number int, row []api.Value) bool) {
	return func(yield func(number int, row []api.Value) bool) {
		// The cursor is told at the end only: yield may range over it, or ask it, in between.
		c.bands, c.err = c.question.giveRows(yield)
	}
}

// Err tells how the last reading has ended (P11).
func (c *Cursor) Err() api.Errno { return c.err }

// Bands tells how many bands the last reading has decoded (P11).
func (c *Cursor) Bands() int { return c.bands }
