package lzw_test

import (
	"bytes"
	"slices"
	"testing"

	"engraver/api"
	"engraver/lzw"
)

const (
	limit = 1 << 20 // bytes of which codes are written
	room  = 1 << 22 // more than any codes of these tests put out
	full  = 4096    // rows of a table, Clear and End counted
)

// dice answers numbers that look like none in particular, the same ones for the same start.
type dice uint32

func (d *dice) below(n int) int {
	*d = *d*1664525 + 1013904223
	return int(uint64(*d) * uint64(n) >> 32) // by the highest bits: the lowest come again too soon
}

// noise answers n bytes that look like none in particular, of so many values.
func noise(start, n, values int) []byte {
	d := dice(start)
	out := make([]byte, n)
	for i := range out {
		out[i] = byte(d.below(values))
	}
	return out
}

func rowOf(n int, value byte) []byte { return bytes.Repeat([]byte{value}, n) }

// counted answers n values, each one more than the one ahead of it.
func counted(n, values int) []byte {
	out := make([]byte, n)
	for i := range out {
		out[i] = byte(i % values)
	}
	return out
}

func clearOf(size int) int { return 1 << size }
func endOf(size int) int   { return 1<<size + 1 }

// widthBehind is the width of the code that comes behind so many rows since the last Clear: the first of them makes none.
func widthBehind(size, rows int) int {
	next := min(1<<size+2+max(rows-1, 0), full)
	width := size + 1
	for width < 12 && next >= 1<<width {
		width++
	}
	return width
}

// tape is single bits, each a byte of its own, in the order in which they are read.
type tape []byte

func (t tape) code(x, width int) tape {
	for i := range width {
		t = append(t, byte(x>>i&1))
	}
	return t
}

// bytes fills the last byte with noughts.
func (t tape) bytes() []byte {
	out := make([]byte, (len(t)+7)/8)
	for i, bit := range t {
		out[i/8] |= bit << (i % 8)
	}
	return out
}

func tapeOf(b []byte) tape {
	var out tape
	for _, c := range b {
		out = out.code(int(c), 8)
	}
	return out
}

// taped puts codes together, each as wide as it must be there.
func taped(size int, codes ...int) tape {
	var out tape
	rows := 0
	for _, code := range codes {
		width := widthBehind(size, rows)
		if code >= 1<<width {
			panic("a code of these tests is wider than it may be")
		}
		out = out.code(code, width)
		rows++
		if code == clearOf(size) {
			rows = 0
		}
	}
	return out
}

func coded(size int, codes ...int) []byte { return taped(size, codes...).bytes() }

// codesOf takes bytes apart: their codes up to End, and the bits behind.
func codesOf(b []byte, size int) (codes []int, behind tape) {
	in, rows := tapeOf(b), 0
	for {
		width := widthBehind(size, rows)
		if len(in) < width {
			return codes, in
		}
		code := 0
		for i := range width {
			code |= int(in[i]) << i
		}
		in, codes = in[width:], append(codes, code)
		switch code {
		case clearOf(size):
			rows = 0
		case endOf(size):
			return codes, in
		default:
			rows++
		}
	}
}

// values are n codes that are single values.
func values(b []byte) []int {
	out := make([]int, len(b))
	for i, value := range b {
		out[i] = int(value)
	}
	return out
}

// answer is what Read says, and what a Reader comes to.
type answer struct {
	out []byte
	err api.Errno
}

func read(b []byte, size, most int) answer {
	out, e := lzw.Read(b, size, most)
	return answer{out, e}
}

// model reads slowly, each row of the table written out.
type model struct {
	size, most int
	table      [][]byte
	last       []byte
	out        []byte
}

func (m *model) clear() {
	m.table, m.last = make([][]byte, 1<<m.size+2), nil
	for i := range 1 << m.size {
		m.table[i] = []byte{byte(i)}
	}
}

// row puts out a code's row; OK if it may.
func (m *model) row(code int) api.Errno {
	var row []byte
	switch {
	case m.last == nil && code >= 1<<m.size:
		return api.ErrForm
	case code < len(m.table):
		row = m.table[code]
	case code == len(m.table):
		row = slices.Concat(m.last, m.last[:1])
	default:
		return api.ErrForm
	}
	if m.last != nil && len(m.table) < full {
		m.table = append(m.table, slices.Concat(m.last, row[:1]))
	}
	m.last = row
	for _, value := range row {
		if len(m.out) == m.most {
			return api.ErrSize
		}
		m.out = append(m.out, value)
	}
	return api.OK
}

// byModel answers what Read must, and how many bytes are put out ahead of the end.
func byModel(b []byte, size, most int) (answer, int) {
	m := &model{size: size, most: most}
	m.clear()
	in, width := tapeOf(b), size+1
	for len(in) >= width {
		code := 0
		for i := range width {
			code |= int(in[i]) << i
		}
		in = in[width:]
		switch code {
		case clearOf(size):
			m.clear()
		case endOf(size):
			return answer{m.out, api.OK}, len(m.out)
		default:
			if e := m.row(code); e != api.OK {
				return answer{err: e}, len(m.out)
			}
		}
		for width = size + 1; width < 12 && len(m.table) >= 1<<width; {
			width++
		}
	}
	return answer{err: api.ErrShort}, len(m.out)
}

// short tells an answer without its many bytes.
func (a answer) short() []any {
	return []any{a.out[:min(len(a.out), 20)], len(a.out), a.err}
}

func wantAnswer(t *testing.T, what any, got, want answer) {
	t.Helper()
	if !bytes.Equal(got.out, want.out) || got.err != want.err {
		t.Errorf("%v: %v, want %v", what, got.short(), want.short())
	}
}

// wantOut asks for the bytes of codes, in just the room that they need, whether bytes stand behind or not.
func wantOut(t *testing.T, what any, b []byte, size int, want []byte) {
	t.Helper()
	wantAnswer(t, what, read(b, size, len(want)), answer{out: want})
	wantAnswer(t, what, read(slices.Concat(b, []byte{0xff, 0, 0x5a}), size, room), answer{out: want})
}

// wantErr asks for an error, with which there are no bytes.
func wantErr(t *testing.T, what any, b []byte, size, most int, want api.Errno) {
	t.Helper()
	wantAnswer(t, what, read(b, size, most), answer{err: want})
}

// scribble writes over a list, its spare room too.
func scribble(b []byte) {
	b = b[:cap(b)]
	for i := range b {
		b[i] ^= 0x5a
	}
}

// wantUntouched hands a list with bytes behind it to f, and asks that neither is changed.
func wantUntouched(t *testing.T, what any, b []byte, f func([]byte)) {
	t.Helper()
	whole := slices.Concat(b, []byte{1, 2, 3, 4})
	before := slices.Clone(whole)
	f(whole[:len(b)])
	if !bytes.Equal(whole, before) {
		t.Errorf("%v: the bytes handed in were changed", what)
	}
}

// sample is codes of a size.
type sample struct {
	size int
	b    []byte
}

// samples are codes that are whole, of all sizes, few enough that each may be tried in many ways.
func samples() []sample {
	out := []sample{{2, []byte{0x8c, 0x0a}}}
	for size := 2; size <= 8; size++ {
		clear, end := clearOf(size), endOf(size)
		out = append(out,
			sample{size, coded(size, end)},
			sample{size, coded(size, clear, end)},
			sample{size, coded(size, 1, 2, 3, end)},
			sample{size, coded(size, clear, clear, 3, end+1, end+2, end+1, 0, end)},
			sample{size, coded(size, 1, end+1, end+2, clear, 2, end+1, clear, end)},
			sample{size, coded(size, append(append([]int{clear}, values(noise(size, 90, 1<<size))...), end)...)},
			sample{size, ofWrite(noise(size, 700, 3), size)},
			sample{size, ofWrite(rowOf(900, 1), size)},
		)
	}
	return out
}

// ofWrite are the codes that Write makes of values that may be.
func ofWrite(b []byte, size int) []byte {
	out, _ := lzw.Write(b, size)
	return out
}
