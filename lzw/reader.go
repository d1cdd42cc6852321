package lzw

import (
	"math"
	"slices"

	"engraver/api"
	"engraver/bits"
)

// row is values that stand in what was put out. Each row that is made does: a last row and the value put out behind it.
type row struct {
	from, length int
}

// Reader reads codes in slices. When it is Done it keeps what it tells, and nothing else.
// The zero Reader is one of no bytes and no room.
type Reader struct {
	in    *bits.Low
	size  int
	most  int
	table numbers
	rows  []row // those made, by their numbers from the table's first row on
	last  row   // what the last code put out; of no length at the beginning, and behind a Clear
	from  int   // the value that comes next of the row that is being put out
	left  int   // how many of that row are still to be put out

	out  []byte
	err  api.Errno
	done bool
}

// NewReader makes a Reader of the codes at the beginning of b, of which it keeps a copy, that puts out at most most bytes.
func NewReader(b []byte, size, most int) *Reader {
	if !sizeMayBe(size) || most < 0 {
		return &Reader{err: api.ErrArg, done: true}
	}
	return &Reader{in: bits.NewLow(b), size: size, most: most, table: newNumbers(size)}
}

// Step goes on till n further bytes are put out, or the codes are at their end, or break: true, if it is Done.
// It never looks beyond the last of the n bytes: that the codes end there is found by the next Step.
func (r *Reader) Step(n int) bool {
	if r == nil {
		return false
	}
	for n > 0 && !r.done {
		if r.advance() {
			n--
		}
	}
	return r.done
}

// Done tells whether the codes came to their end, or broke.
func (r *Reader) Done() bool { return r != nil && r.done }

// Err answers why the codes broke, when it is Done.
func (r *Reader) Err() api.Errno {
	if r == nil {
		return api.ErrArg
	}
	return r.err
}

// Out answers what the codes say, when it is Done.
func (r *Reader) Out() []byte {
	if !r.Done() {
		return nil
	}
	return slices.Clone(r.out)
}

// Read reads the codes at the beginning of b, up to End: what they say, if that is at most most bytes.
func Read(b []byte, size, most int) ([]byte, api.Errno) {
	r := NewReader(b, size, most)
	for !r.Step(math.MaxInt) {
	}
	return r.Out(), r.Err()
}

// advance goes on by a byte of a row, or by a code. It tells whether a byte was put out.
func (r *Reader) advance() bool {
	if r.left > 0 {
		return r.rowByte()
	}
	if r.in.Left() < r.table.width {
		return r.fail(api.ErrShort)
	}
	return r.take(r.in.Take(r.table.width))
}

func (r *Reader) take(code int) bool {
	switch code {
	case r.table.clear:
		r.restart()
		return false
	case r.table.end():
		*r = Reader{out: r.out, done: true}
		return false
	}
	r.makeRow()
	if code < r.table.clear {
		r.last = row{len(r.out), 1}
		return r.put(byte(code))
	}
	return r.beginRow(code - r.table.firstRow())
}

func (r *Reader) restart() {
	r.table = newNumbers(r.size)
	r.rows = r.rows[:0]
	r.last = row{}
}

// makeRow makes the row of the last one and the value behind it, ahead of the putting out of that value: so the code
// of the very row that is being made finds it too, and needs no further rule.
func (r *Reader) makeRow() {
	if r.last.length == 0 || r.table.full() {
		return
	}
	r.rows = append(r.rows, row{r.last.from, r.last.length + 1})
	r.table.count()
}

func (r *Reader) beginRow(place int) bool {
	if place >= len(r.rows) {
		return r.fail(api.ErrForm)
	}
	r.from, r.left = r.rows[place].from, r.rows[place].length
	r.last = row{len(r.out), r.left}
	return false
}

// rowByte puts out the row's next value. In the row that is just being made the last value is the first one put out again.
func (r *Reader) rowByte() bool {
	b := r.out[r.from]
	r.from++
	r.left--
	return r.put(b)
}

func (r *Reader) put(b byte) bool {
	if len(r.out) >= r.most {
		return r.fail(api.ErrSize)
	}
	r.out = append(r.out, b)
	return true
}

// fail ends it with an error, and tells that no byte was put out.
func (r *Reader) fail(e api.Errno) bool {
	*r = Reader{err: e, done: true}
	return false
}
