package chunk_test

import (
	"bytes"
	"encoding/binary"
	"hash/crc32"
	"slices"
	"strings"
	"testing"

	"engraver/api"
	"engraver/chunk"
)

const signature = "\x89PNG\r\n\x1a\n"

// notLetters are bytes just beside the letters, and others that are none.
const notLetters = "@[`{019 .-_\x00\x01\x20\x7f\x80\xc1\xda\xe1\xfa\xff"

// dice answers numbers that look like none in particular, the same ones for the same start.
type dice uint32

func (d *dice) below(n int) int {
	*d = *d*1664525 + 1013904223
	return int(uint64(*d) * uint64(n) >> 32) // by the highest bits: the lowest come again too soon
}

// noise answers n bytes that look like none in particular.
func noise(start, n int) []byte {
	d := dice(start)
	out := make([]byte, n)
	for i := range out {
		out[i] = byte(d.below(256))
	}
	return out
}

// raw answers the bytes of one chunk, its length and its sum as handed in.
func raw(length uint32, kind string, data []byte, sum uint32) []byte {
	out := binary.BigEndian.AppendUint32(nil, length)
	out = append(out, kind...)
	out = append(out, data...)
	return binary.BigEndian.AppendUint32(out, sum)
}

// sumOf answers a chunk's CRC-32 as the library reckons it.
func sumOf(kind string, data []byte) uint32 {
	return crc32.ChecksumIEEE(append([]byte(kind), data...))
}

// good answers the bytes of one chunk, its length and its sum right.
func good(kind string, data ...byte) []byte {
	return raw(uint32(len(data)), kind, data, sumOf(kind, data))
}

// said answers the bytes of one chunk with another length than it has.
func said(length uint32, kind string, data ...byte) []byte {
	return raw(length, kind, data, sumOf(kind, data))
}

// spoiled answers the bytes of one chunk with another sum than its own.
func spoiled(kind string, data ...byte) []byte {
	return raw(uint32(len(data)), kind, data, sumOf(kind, data)^1)
}

// file answers these parts behind a signature.
func file(parts ...[]byte) []byte {
	return append([]byte(signature), bytes.Join(parts, nil)...)
}

// end answers the last chunk's bytes.
func end() []byte { return good("IEND") }

// of answers chunks of these kinds, IHDR with the 13 bytes that it should have, the others with none.
func of(kinds string) []chunk.Chunk {
	var l []chunk.Chunk
	for _, kind := range strings.Fields(kinds) {
		c := chunk.Chunk{Kind: kind}
		if kind == "IHDR" {
			c.Data = make([]byte, 13)
		}
		l = append(l, c)
	}
	return l
}

// some answers n chunks of any kinds and data, no IEND among them.
func some(start, n int) []chunk.Chunk {
	const letters = "abcdwxyzABCDWXYZ"
	d := dice(start)
	l := make([]chunk.Chunk, n)
	for i := range l {
		kind := make([]byte, 4)
		for j := range kind {
			kind[j] = letters[d.below(len(letters))]
		}
		l[i] = chunk.Chunk{Kind: string(kind), Data: noise(d.below(1000), d.below(40))}
	}
	return l
}

// alike tells whether lists hold the same chunks; nil and no data are one.
func alike(a, b []chunk.Chunk) bool {
	return slices.EqualFunc(a, b, func(x, y chunk.Chunk) bool { return x.Kind == y.Kind && bytes.Equal(x.Data, y.Data) })
}

// deep answers l in memory of its own.
func deep(l []chunk.Chunk) []chunk.Chunk {
	out := slices.Clone(l)
	for i, c := range out {
		out[i].Data = bytes.Clone(c.Data)
	}
	return out
}

func wantCut(t *testing.T, what any, b []byte, want []chunk.Chunk) {
	t.Helper()
	if l, e := chunk.Cut(b); e != api.OK || !alike(l, want) {
		t.Errorf("%v: %d chunks, %v; want %d (or those unlike), ok", what, len(l), e, len(want))
	}
}

// wantNotCut asks for an error, and for nothing beside it.
func wantNotCut(t *testing.T, what any, b []byte, want api.Errno) {
	t.Helper()
	if l, e := chunk.Cut(b); e != want || len(l) != 0 {
		t.Errorf("%v: %d chunks, %v; want none, %v", what, len(l), e, want)
	}
}

func wantJoined(t *testing.T, what any, l []chunk.Chunk, want []byte) {
	t.Helper()
	if b, e := chunk.Join(l); e != api.OK || !bytes.Equal(b, want) {
		t.Errorf("%v: %d bytes, %v; want %d (or those unlike), ok", what, len(b), e, len(want))
	}
}

// wantNotJoined asks for an error, and for nothing beside it.
func wantNotJoined(t *testing.T, what any, l []chunk.Chunk, want api.Errno) {
	t.Helper()
	if b, e := chunk.Join(l); e != want || len(b) != 0 {
		t.Errorf("%v: %d bytes, %v; want none, %v", what, len(b), e, want)
	}
}

func wantOrder(t *testing.T, what any, l []chunk.Chunk, want api.Errno) {
	t.Helper()
	if e := chunk.Order(l); e != want {
		t.Errorf("%v: %v, want %v", what, e, want)
	}
}

// spare answers a list that has marks in its spare room, and the whole of it with them.
func spare[T any](list []T, mark T) (short, whole []T) {
	whole = slices.Concat(list, []T{mark, mark, mark})
	return whole[:len(list)], whole
}

// scribble writes over a list, its spare room too.
func scribble[T any](list []T, mark T) {
	list = list[:cap(list)]
	for i := range list {
		list[i] = mark
	}
}

// scribbleAll writes over a list of chunks and over their data.
func scribbleAll(l []chunk.Chunk) {
	for _, c := range l {
		scribble(c.Data, 0xee)
	}
	scribble(l, chunk.Chunk{Kind: "mark"})
}
