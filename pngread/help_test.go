package pngread_test

import (
	"encoding/binary"
	"slices"
	"testing"

	"engraver/api"
	"engraver/chunk"
	"engraver/filter"
	"engraver/pngread"
	"engraver/zlib"
)

// pair is a Depth and a Colour.
type pair struct{ depth, colour int }

// pairs are the fifteen that may be.
var pairs = []pair{{1, 0}, {2, 0}, {4, 0}, {8, 0}, {16, 0}, {8, 2}, {16, 2}, {1, 3}, {2, 3}, {4, 3}, {8, 3}, {8, 4}, {16, 4}, {8, 6}, {16, 6}}

// parts tells how many samples a pixel of a Colour has.
var parts = map[int]int{0: 1, 2: 3, 3: 1, 4: 2, 6: 4}

// pattern tells of each pixel of eight by eight which pass it is in, as PNG's own specification draws it.
var pattern = [8]string{
	"16462646",
	"77777777",
	"56565656",
	"77777777",
	"36463646",
	"77777777",
	"56565656",
	"77777777",
}

// dot is a pixel's samples as they stand in the file.
type dot [4]int

// picture is what a test's file is made of. A list that is nil makes no chunk, an empty one a chunk without data.
type picture struct {
	pair
	w, h       int
	laced      bool
	plte, trns []byte
	dots       []dot
	fill       int // the bits that are left of a row's last byte
}

// dice answers numbers that look like none in particular, the same ones for the same start.
type dice uint32

func (d *dice) below(n int) int {
	*d = *d*1664525 + 1013904223
	return int(uint64(*d) * uint64(n) >> 32) // by the highest bits: the lowest come again too soon
}

// noise answers n bytes that look like none in particular.
func noise(start, n int) []byte {
	d := dice(start)
	out := make([]byte, n)
	for i := range out {
		out[i] = byte(d.below(256))
	}
	return out
}

// anyOf answers a picture of any samples; of Colour 3 with as many colours as there may be.
func anyOf(start int, of pair, w, h int, laced bool) picture {
	d := dice(start)
	p := picture{pair: of, w: w, h: h, laced: laced, dots: make([]dot, w*h)}
	for i := range p.dots {
		for j := range parts[of.colour] {
			p.dots[i][j] = d.below(1 << of.depth)
		}
	}
	if of.colour == 3 {
		p.plte = noise(start, 3<<of.depth)
	}
	return p
}

// lines answers the places of the picture's pixels row by row, those of each pass by themselves.
func (p picture) lines() [][][]int {
	names := "1234567"
	if !p.laced {
		names = "1"
	}
	var out [][][]int
	for _, name := range names {
		var pass [][]int
		for y := range p.h {
			var line []int
			for x := range p.w {
				if !p.laced || rune(pattern[y%8][x%8]) == name {
					line = append(line, y*p.w+x)
				}
			}
			if len(line) > 0 {
				pass = append(pass, line)
			}
		}
		if len(pass) > 0 {
			out = append(out, pass)
		}
	}
	return out
}

// plain answers a row's bytes, its pixels bit by bit, the highest first.
func (p picture) plain(line []int) []byte {
	var digits []int
	for _, at := range line {
		for j := range parts[p.colour] {
			for n := p.depth - 1; n >= 0; n-- {
				digits = append(digits, p.dots[at][j]>>n&1)
			}
		}
	}
	for n := 0; len(digits)%8 != 0; n++ {
		digits = append(digits, p.fill>>n&1)
	}
	row := make([]byte, len(digits)/8)
	for i, d := range digits {
		row[i/8] |= byte(d << (7 - i%8))
	}
	return row
}

// data answers all rows, the n-th one by the filter kind(n).
func (p picture) data(kind func(n int) int) []byte {
	back := (parts[p.colour]*p.depth + 7) / 8
	var out []byte
	n := 0
	for _, pass := range p.lines() {
		var above []byte
		for _, line := range pass {
			row := p.plain(line)
			done, _ := filter.Do(kind(n), row, above, back)
			out = append(append(out, byte(kind(n))), done...)
			above = row
			n++
		}
	}
	return out
}

// sum tells how many rows the picture has in all its passes.
func (p picture) sum() int {
	n := 0
	for _, pass := range p.lines() {
		n += len(pass)
	}
	return n
}

// unfiltered is the filter that does nothing.
func unfiltered(int) int { return 0 }

// turns begins with a filter and takes the next one for each row.
func turns(first int) func(int) int {
	return func(n int) int { return (first + n) % 5 }
}

// head answers an IHDR's bytes.
func head(w, h uint32, depth, colour, compression, filter, lace byte) []byte {
	b := binary.BigEndian.AppendUint32(nil, w)
	b = binary.BigEndian.AppendUint32(b, h)
	return append(b, depth, colour, compression, filter, lace)
}

// ahead answers the chunks that come ahead of the data.
func (p picture) ahead() []chunk.Chunk {
	lace := byte(0)
	if p.laced {
		lace = 1
	}
	l := []chunk.Chunk{{Kind: "IHDR", Data: head(uint32(p.w), uint32(p.h), byte(p.depth), byte(p.colour), 0, 0, lace)}}
	if p.plte != nil {
		l = append(l, chunk.Chunk{Kind: "PLTE", Data: p.plte})
	}
	if p.trns != nil {
		l = append(l, chunk.Chunk{Kind: "tRNS", Data: p.trns})
	}
	return l
}

// file answers the PNG file in which the IDATs hold these bytes.
func (p picture) file(idats ...[]byte) []byte {
	l := p.ahead()
	for _, data := range idats {
		l = append(l, chunk.Chunk{Kind: "IDAT", Data: data})
	}
	return join(append(l, chunk.Chunk{Kind: "IEND"})...)
}

// packed answers the PNG file with these rows in one IDAT.
func (p picture) packed(rows []byte) []byte { return p.file(zlib.Close(rows)) }

// png answers the picture's PNG file, all rows unfiltered.
func (p picture) png() []byte { return p.packed(p.data(unfiltered)) }

// join answers these chunks' file.
func join(l ...chunk.Chunk) []byte {
	b, e := chunk.Join(l)
	if e != api.OK {
		panic("a test's file can't be joined: " + e.Error())
	}
	return b
}

// scaled answers a sample of so many bits as one of 16.
func scaled(v, bits int) uint16 { return uint16(v * 65535 / (1<<bits - 1)) }

// raster answers the picture that should be read.
func (p picture) raster() api.Raster {
	r := api.Raster{W: p.w, H: p.h}
	for _, d := range p.dots {
		s := p.pixel(d)
		r.Pix = append(r.Pix, s[:]...)
	}
	return r
}

// pixel answers one of the picture's pixels as the chapter says it.
func (p picture) pixel(d dot) [4]uint16 {
	a := [4]uint16{scaled(d[0], p.depth), scaled(d[1], p.depth), scaled(d[2], p.depth), scaled(d[3], p.depth)}
	switch p.colour {
	case 0:
		return [4]uint16{a[0], a[0], a[0], p.alpha(d)}
	case 2:
		return [4]uint16{a[0], a[1], a[2], p.alpha(d)}
	case 3:
		c := [4]uint16{0, 0, 0, 65535}
		for j := range 3 {
			c[j] = 257 * uint16(p.plte[3*d[0]+j])
		}
		if d[0] < len(p.trns) {
			c[3] = 257 * uint16(p.trns[d[0]])
		}
		return c
	case 4:
		return [4]uint16{a[0], a[0], a[0], a[1]}
	}
	return a
}

// alpha answers that of a pixel of Colour 0 or 2.
func (p picture) alpha(d dot) uint16 {
	if p.trns == nil {
		return 65535
	}
	for j := range parts[p.colour] {
		if d[j] != (int(p.trns[2*j])<<8|int(p.trns[2*j+1]))%(1<<p.depth) {
			return 65535
		}
	}
	return 0
}

// wantPicture asks for what a file is read as.
func wantPicture(t *testing.T, what any, b []byte, want api.Raster) {
	t.Helper()
	r, e := pngread.Decode(b)
	if e != api.OK || r.W != want.W || r.H != want.H {
		t.Errorf("%v: %d by %d, %v; want %d by %d, ok", what, r.W, r.H, e, want.W, want.H)
		return
	}
	if len(r.Pix) != len(want.Pix) {
		t.Errorf("%v: %d samples, want %d", what, len(r.Pix), len(want.Pix))
		return
	}
	for i := range r.Pix {
		if r.Pix[i] != want.Pix[i] {
			t.Errorf("%v: sample %d of pixel %d is %d, want %d", what, i%4, i/4, r.Pix[i], want.Pix[i])
			return
		}
	}
}

// wantNone asks for an error, and for a zero picture beside it.
func wantNone(t *testing.T, what any, b []byte, want api.Errno) {
	t.Helper()
	if r, e := pngread.Decode(b); e != want || r.W != 0 || r.H != 0 || len(r.Pix) != 0 {
		t.Errorf("%v: %d by %d of %d samples, %v; want none, %v", what, r.W, r.H, len(r.Pix), e, want)
	}
}

// wantHead asks for what an IHDR says.
func wantHead(t *testing.T, b []byte, want pngread.Head) {
	t.Helper()
	if h, e := pngread.Read(b); e != api.OK || h != want {
		t.Errorf("Read of % x: %v, %v; want %v, ok", b, h, e, want)
	}
}

// wantNoHead asks for an error, and for a zero Head beside it.
func wantNoHead(t *testing.T, b []byte, want api.Errno) {
	t.Helper()
	if h, e := pngread.Read(b); e != want || h != (pngread.Head{}) {
		t.Errorf("Read of % x: %v, %v; want none, %v", b, h, e, want)
	}
}

// spare answers a list that has marks in its spare room, and the whole of it with them.
func spare[T any](list []T, mark T) (short, whole []T) {
	whole = slices.Concat(list, []T{mark, mark, mark})
	return whole[:len(list)], whole
}

// scribble writes over a list, its spare room too.
func scribble[T any](list []T, mark T) {
	list = list[:cap(list)]
	for i := range list {
		list[i] = mark
	}
}
