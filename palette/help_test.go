package palette_test

import (
	"bytes"
	"math"
	"slices"
	"testing"

	"engraver/api"
	"engraver/palette"
)

type colour = [4]uint16

var (
	clear = colour{}
	black = colour{0, 0, 0, 0xffff}
	white = colour{0xffff, 0xffff, 0xffff, 0xffff}
	ink   = colour{0x1212, 0x3434, 0x5656, 0xffff}
)

// dice answers numbers that look like none in particular, the same ones for the same start.
type dice uint32

func (d *dice) below(n int) int {
	*d = *d*1664525 + 1013904223
	return int(uint64(*d) * uint64(n) >> 32) // by the highest bits: the lowest come again too soon
}

// noise answers n bytes that look like none in particular, of so many values.
func noise(start, n, values int) []byte {
	d := dice(start)
	out := make([]byte, n)
	for i := range out {
		out[i] = byte(d.below(values))
	}
	return out
}

// sides are two numbers that might be a picture's sides.
type sides struct{ w, h int }

// mayBe are sides of pictures, the edges of both limits among them.
func mayBe() []sides {
	return []sides{{1, 1}, {2, 1}, {1, 2}, {3, 2}, {7, 5}, {256, 1}, {1, 256}, {256, 64}, {64, 256}, {128, 128}}
}

// mayNot are sides of no picture, with what raster.Size tells of them.
func mayNot() map[sides]api.Errno {
	return map[sides]api.Errno{
		{0, 1}: api.ErrArg, {1, 0}: api.ErrArg, {0, 0}: api.ErrArg, {-1, 1}: api.ErrArg, {2, -1}: api.ErrArg, {-1, -1}: api.ErrArg,
		{0, 257}: api.ErrArg, {257, 0}: api.ErrArg, {math.MinInt, math.MaxInt}: api.ErrArg, {math.MinInt, math.MinInt}: api.ErrArg,
		{257, 1}: api.ErrSize, {1, 257}: api.ErrSize, {256, 65}: api.ErrSize, {65, 256}: api.ErrSize, {128, 129}: api.ErrSize,
		{1 << 32, 1 << 32}: api.ErrSize, {1 << 62, 4}: api.ErrSize, {1<<62 + 1, 4}: api.ErrSize, {math.MaxInt, math.MaxInt}: api.ErrSize,
	}
}

// picture answers one of these pixels, row by row.
func picture(w int, pixels ...colour) api.Raster {
	r := api.Raster{W: w, H: len(pixels) / w}
	for _, p := range pixels {
		r.Pix = append(r.Pix, p[:]...)
	}
	return r
}

// distinct answers n unlike opaque colours, at most 256 times 256 of them, black the first.
func distinct(n int) []colour {
	out := make([]colour, n)
	for i := range out {
		out[i] = colour{uint16(i % 256 * 257), 0, uint16(i / 256 * 257), 0xffff}
	}
	return out
}

// anySamples answers n unlike colours of any samples, such as no GIF holds among them.
func anySamples(n int) []colour {
	d := dice(n)
	out := make([]colour, n)
	for i := range out {
		out[i] = colour{uint16(i), uint16(d.below(1 << 16)), uint16(d.below(1 << 16)), uint16(d.below(1 << 16))}
	}
	return out
}

// chosen answers the colours at these places.
func chosen(colours []colour, places []byte) []colour {
	out := make([]colour, len(places))
	for i, place := range places {
		out[i] = colours[place]
	}
	return out
}

// wantMade asks for colours, for the clear one's place and for each pixel's.
func wantMade(t *testing.T, what any, r api.Raster, colours []colour, clearPlace int, index []byte) {
	t.Helper()
	p, got, ok := palette.Make(r)
	if !slices.Equal(p.Colours, colours) || !ok {
		t.Errorf("%v: %d colours, %v; want %d, true (or those unlike)", what, len(p.Colours), ok, len(colours))
	}
	if p.Clear != clearPlace {
		t.Errorf("%v: clear at %d, want %d", what, p.Clear, clearPlace)
	}
	if !bytes.Equal(got, index) {
		t.Errorf("%v: %d places, want %d (or those unlike)", what, len(got), len(index))
	}
}

// wantNotMade asks for false, and for nothing beside it.
func wantNotMade(t *testing.T, what any, r api.Raster) {
	t.Helper()
	if p, index, ok := palette.Make(r); len(p.Colours) != 0 || p.Clear != 0 || len(index) != 0 || ok {
		t.Errorf("%v: %d colours, clear at %d, %d places, %v; want none", what, len(p.Colours), p.Clear, len(index), ok)
	}
}

func wantDrawn(t *testing.T, what any, p palette.Palette, w, h int, index []byte, want api.Raster) {
	t.Helper()
	r, e := palette.Draw(p, w, h, index)
	if r.W != want.W || r.H != want.H || !slices.Equal(r.Pix, want.Pix) || e != api.OK {
		t.Errorf("%v: %d by %d, %d samples, %v; want %d by %d, %d (or those unlike), ok", what, r.W, r.H, len(r.Pix), e, want.W, want.H, len(want.Pix))
	}
}

// wantNotDrawn asks for an error, and for no picture beside it.
func wantNotDrawn(t *testing.T, what any, p palette.Palette, w, h int, index []byte, want api.Errno) {
	t.Helper()
	r, e := palette.Draw(p, w, h, index)
	if e != want || r.W != 0 || r.H != 0 || len(r.Pix) != 0 {
		t.Errorf("%v: %d by %d, %d samples, %v; want none, %v", what, r.W, r.H, len(r.Pix), e, want)
	}
}

// spare answers a list that has marks in its spare room, and the whole of it with them.
func spare[T any](list []T, mark T) (short, whole []T) {
	whole = slices.Concat(list, []T{mark, mark, mark})
	return whole[:len(list)], whole
}

// scribble writes over a list, its spare room too.
func scribble[T any](list []T, mark T) {
	list = list[:cap(list)]
	for i := range list {
		list[i] = mark
	}
}
