// Package bits reads and writes bits, from either end of a byte: see DOC.md, chapter 1.
//
// What can't be read or written is a panic whose value is an api.Errno:
// ErrArg where the number of bits or bytes is none that may be asked for,
// ErrShort where so much is not left. Guard recovers.
package bits

import (
	"slices"

	"engraver/api"
)

// widest is the most bits that one Take or Put may move.
const widest = 24

// source is what is read: its bytes, and how many of their bits are behind.
type source struct {
	bytes []byte
	read  int
}

// sink is what is written: its bytes, and how many of their bits are taken.
type sink struct {
	bytes   []byte
	written int
}

// Low reads and writes from each byte's lowest bit on. The zero Low reads nothing, and may be written.
type Low struct {
	in  source
	out sink
}

// High reads and writes from each byte's highest bit on. The zero High reads nothing, and may be written.
type High struct {
	in  source
	out sink
}

// NewLow reads b, of which it keeps a copy.
func NewLow(b []byte) *Low { return &Low{in: source{bytes: slices.Clone(b)}} }

// NewHigh reads b, of which it keeps a copy.
func NewHigh(b []byte) *High { return &High{in: source{bytes: slices.Clone(b)}} }

// Left tells how many bits are left to read.
func (l *Low) Left() int {
	if l == nil {
		return 0
	}
	return l.in.left()
}

// Left tells how many bits are left to read.
func (h *High) Left() int {
	if h == nil {
		return 0
	}
	return h.in.left()
}

// Take reads n bits, the first one the lowest of the answer. It panics, with nothing read, where they are not left or n is not from 0 to 24.
func (l *Low) Take(n int) int {
	mustBeWidth(n)
	mustBeLeft(n, l.Left())
	x := 0
	for got := 0; got < n; {
		b, from, size := l.in.piece(n - got)
		x |= lowest(int(b)>>from, size) << got
		got += size
	}
	return x
}

// Take reads n bits, the first one the highest of the answer. It panics, with nothing read, where they are not left or n is not from 0 to 24.
func (h *High) Take(n int) int {
	mustBeWidth(n)
	mustBeLeft(n, h.Left())
	x := 0
	for got := 0; got < n; {
		b, from, size := h.in.piece(n - got)
		x = x<<size | lowest(int(b)>>(8-from-size), size)
		got += size
	}
	return x
}

// Align passes over the bits up to the next byte's beginning.
func (l *Low) Align() {
	if l != nil {
		l.in.read = 8 * wholeBytes(l.in.read)
	}
}

// Bytes aligns, then reads n bytes. It panics, with nothing read, not even aligned, where they are not left or n is below 0.
func (l *Low) Bytes(n int) []byte {
	if n < 0 {
		panic(api.ErrArg)
	}
	// Held against whole bytes, since 8 times an n that is great enough wraps round.
	mustBeLeft(n, l.Left()/8)
	l.Align()
	if n == 0 {
		return nil
	}
	from := l.in.read / 8
	l.in.read += 8 * n
	return slices.Clone(l.in.bytes[from : from+n])
}

// Put writes the lowest n bits of x, the lowest first. It panics, with nothing written, where n is not from 0 to 24.
func (l *Low) Put(x, n int) {
	mustBeWidth(n)
	if l == nil {
		return
	}
	for put := 0; put < n; {
		from, size := l.out.room(n - put)
		l.out.fill(lowest(x>>put, size) << from)
		put += size
	}
}

// Put writes the lowest n bits of x, the highest of them first. It panics, with nothing written, where n is not from 0 to 24.
func (h *High) Put(x, n int) {
	mustBeWidth(n)
	if h == nil {
		return
	}
	for put := 0; put < n; {
		from, size := h.out.room(n - put)
		put += size
		h.out.fill(lowest(x>>(n-put), size) << (8 - from - size))
	}
}

// Out answers what was written, the last byte filled with noughts. Writing may go on behind the last bit.
func (l *Low) Out() []byte {
	if l == nil {
		return nil
	}
	return slices.Clone(l.out.bytes)
}

// Out answers what was written, the last byte filled with noughts. Writing may go on behind the last bit.
func (h *High) Out() []byte {
	if h == nil {
		return nil
	}
	return slices.Clone(h.out.bytes)
}

// Guard calls f, unless it is nil, and answers false if it panicked.
func Guard(f func()) (ok bool) {
	if f == nil {
		return true
	}
	defer func() {
		if recover() != nil {
			ok = false
		}
	}()
	f()
	return true
}

func (s *source) left() int { return 8*len(s.bytes) - s.read }

// piece reads at most n bits, all of one byte: that byte, how many of its bits were read ahead of them, and how many they are.
func (s *source) piece(n int) (b byte, from, size int) {
	b, from = s.bytes[s.read/8], s.read%8
	size = min(n, 8-from)
	s.read += size
	return b, from, size
}

// room makes room for at most n bits, all in the last byte: how many of its bits were written ahead of them, and how many they are.
func (s *sink) room(n int) (from, size int) {
	from = s.written % 8
	if from == 0 {
		s.bytes = append(s.bytes, 0)
	}
	size = min(n, 8-from)
	s.written += size
	return from, size
}

// fill lays bits into the last byte, at places where noughts stood.
func (s *sink) fill(b int) { s.bytes[len(s.bytes)-1] |= byte(b) }

// lowest keeps the lowest n bits of x.
func lowest(x, n int) int { return x & (1<<n - 1) }

// wholeBytes tells how many bytes n bits begin.
func wholeBytes(n int) int { return (n + 7) / 8 }

func mustBeWidth(n int) {
	if n < 0 || n > widest {
		panic(api.ErrArg)
	}
}

func mustBeLeft(n, left int) {
	if n > left {
		panic(api.ErrShort)
	}
}
