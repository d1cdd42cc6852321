package lzw

import (
	"engraver/api"
	"engraver/bits"
)

const (
	mostBytes = 1 << 20 // of which codes are written
	noRow     = -1
)

// longer is a row, by its number, and a value behind it.
type longer struct {
	row   int
	value byte
}

// writer gathers the values of the longest row that the table has, and writes its number when the next value is not of it.
type writer struct {
	size  int
	table numbers
	rows  map[longer]int // the numbers of those made
	first bool           // no row was written behind the last Clear
	row   int            // the number of the row that is being gathered
	out   bits.Low
}

// Write answers codes of b that Read takes as b.
func Write(b []byte, size int) ([]byte, api.Errno) {
	if !sizeMayBe(size) || !allBelow(b, 1<<size) {
		return nil, api.ErrArg
	}
	if len(b) > mostBytes {
		return nil, api.ErrLong
	}
	w := newWriter(size)
	for _, value := range b {
		w.take(value)
	}
	return w.end(), api.OK
}

// Most tells how many bytes the codes of n bytes have at the most.
func Most(n int) int {
	n = max(n, 0)
	return 2*n + n/4 + 16
}

func allBelow(b []byte, limit int) bool {
	for _, value := range b {
		if int(value) >= limit {
			return false
		}
	}
	return true
}

func newWriter(size int) *writer {
	w := &writer{size: size, table: newNumbers(size), rows: map[longer]int{}, row: noRow}
	w.putClear()
	return w
}

func (w *writer) take(value byte) {
	if w.row == noRow {
		w.row = int(value)
		return
	}
	more := longer{w.row, value}
	if row, ok := w.rows[more]; ok {
		w.row = row
		return
	}
	w.putRow()
	if w.table.full() {
		w.putClear()
	} else {
		w.rows[more] = w.table.next
	}
	w.row = int(value)
}

// putRow writes the row's number, and counts as the reader does: it makes a row behind each code but the first.
func (w *writer) putRow() {
	w.out.Put(w.row, w.table.width)
	if !w.first {
		w.table.count()
	}
	w.first = false
}

func (w *writer) putClear() {
	w.out.Put(w.table.clear, w.table.width)
	w.table = newNumbers(w.size)
	clear(w.rows)
	w.first = true
}

func (w *writer) end() []byte {
	if w.row != noRow {
		w.putRow()
	}
	w.out.Put(w.table.end(), w.table.width)
	return w.out.Out()
}
