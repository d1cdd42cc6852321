package pngread

import (
	"engraver/adam"
	"engraver/api"
	"engraver/bits"
	"engraver/chunk"
	"engraver/filter"
	"engraver/raster"
	"engraver/zlib"
)

// file is what a PNG's chunks hold: how its pixels are told, which passes they come in, and their packed rows.
type file struct {
	ink    ink
	passes []adam.Pass
	packed []byte
}

// Decode answers a PNG file's picture.
func Decode(b []byte) (api.Raster, api.Errno) {
	f, e := open(b)
	if e != api.OK {
		return api.Raster{}, e
	}
	rows, e := f.unpack()
	if e != api.OK {
		return api.Raster{}, e
	}
	return f.draw(rows)
}

// open asks a file's chunks what they mean, its pixels not among it.
func open(b []byte) (file, api.Errno) {
	l, e := chunk.Cut(b)
	if e != api.OK {
		return file{}, e
	}
	if e := chunk.Order(l); e != api.OK {
		return file{}, e
	}
	head, e := Read(l[0].Data)
	if e != api.OK {
		return file{}, e
	}
	k, ok := mix(head, find(l, "PLTE"), find(l, "tRNS"))
	if !ok {
		return file{}, api.ErrForm
	}
	return file{ink: k, passes: passes(head), packed: all(l, "IDAT")}, api.OK
}

// find answers the first chunk of a kind, nil if there is none: one without data is another thing than none.
func find(l []chunk.Chunk, kind string) *chunk.Chunk {
	for i := range l {
		if l[i].Kind == kind {
			return &l[i]
		}
	}
	return nil
}

// all answers the data of all chunks of a kind, one behind the other.
func all(l []chunk.Chunk, kind string) []byte {
	var out []byte
	for _, c := range l {
		if c.Kind == kind {
			out = append(out, c.Data...)
		}
	}
	return out
}

// passes answers in which passes a picture's pixels come.
func passes(h Head) []adam.Pass {
	if h.Laced {
		return adam.Passes(h.W, h.H)
	}
	return adam.Whole(h.W, h.H)
}

// unpack answers the bytes of all rows, their filters' ones among them: just as many as the passes have.
func (f file) unpack() ([]byte, api.Errno) {
	most := adam.Bytes(f.passes, f.ink.bits())
	rows, e := zlib.Open(f.packed, most)
	if e != api.OK {
		return nil, e
	}
	if len(rows) < most {
		return nil, api.ErrShort
	}
	return rows, api.OK
}

// draw answers the picture of which these are the rows, pass by pass.
func (f file) draw(rows []byte) (api.Raster, api.Errno) {
	r, e := raster.New(f.ink.head.W, f.ink.head.H)
	if e != api.OK {
		return api.Raster{}, e
	}
	for _, p := range f.passes {
		size := p.H * (1 + adam.Row(p.W, f.ink.bits()))
		if !f.ink.drawPass(r, p, rows[:size]) {
			return api.Raster{}, api.ErrForm
		}
		rows = rows[size:]
	}
	return r, api.OK
}

// drawPass draws one pass's rows, each one undone by the one above it; false, if one can't be.
func (k ink) drawPass(r api.Raster, p adam.Pass, rows []byte) bool {
	size := 1 + adam.Row(p.W, k.bits())
	back := max(1, k.bits()/8) // where a byte holds several pixels its neighbour is the next byte
	var above []byte           // no pass looks at the rows of the one ahead of it
	for y := range p.H {
		row, ok := filter.Undo(int(rows[0]), rows[1:size], above, back)
		if !ok || !k.drawRow(r, p, y, row) {
			return false
		}
		above, rows = row, rows[size:]
	}
	return true
}

// drawRow draws the pixels of a pass's row y; false, if one is none.
func (k ink) drawRow(r api.Raster, p adam.Pass, y int, row []byte) bool {
	source := bits.NewHigh(row)
	for x := range p.W {
		var told samples
		for i := range Parts(k.head.Colour) {
			told[i] = source.Take(k.head.Depth)
		}
		c, ok := k.pixel(told)
		if !ok {
			return false
		}
		raster.Set(r, p.X+x*p.DX, p.Y+y*p.DY, c)
	}
	return true
}
