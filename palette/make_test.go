package palette_test

import (
	"bytes"
	"slices"
	"testing"

	"engraver/api"
	"engraver/palette"
	"engraver/raster"
)

// P10.1: the chapter's example.
func TestMakeExample(t *testing.T) {
	wantMade(t, "black, white, black", picture(3, black, white, black), []colour{black, white}, -1, []byte{0, 1, 0})
}

func TestMakeOnePixel(t *testing.T) {
	for _, c := range []colour{black, white, ink, {0, 0, 257, 0xffff}} {
		wantMade(t, c, picture(1, c), []colour{c}, -1, []byte{0})
	}
	wantMade(t, "a clear one", picture(1, clear), []colour{clear}, 0, []byte{0})
}

func TestMakeOneColour(t *testing.T) {
	for _, s := range mayBe() {
		all := make([]byte, s.w*s.h)
		wantMade(t, s, picture(s.w, slices.Repeat([]colour{ink}, s.w*s.h)...), []colour{ink}, -1, all)
		wantMade(t, s, picture(s.w, slices.Repeat([]colour{clear}, s.w*s.h)...), []colour{clear}, 0, all)
	}
}

// P10.1: by rows, not by columns; by when they come, not by their samples.
func TestMakeNumbersAsTheyCome(t *testing.T) {
	wantMade(t, "two rows", picture(3, white, white, ink, black, ink, white), []colour{white, ink, black}, -1, []byte{0, 0, 1, 2, 1, 0})
	wantMade(t, "two columns", picture(2, white, black, ink, white, ink, black), []colour{white, black, ink}, -1, []byte{0, 1, 2, 0, 2, 1})
	all := distinct(256)
	slices.Reverse(all)
	wantMade(t, "downwards", picture(16, all...), all, -1, counted(256))
}

// counted answers the places of n colours that come once each.
func counted(n int) []byte {
	out := make([]byte, n)
	for i := range out {
		out[i] = byte(i)
	}
	return out
}

// P10.1: colours that come again in any order, by a search from the first one on.
func TestMakeNumbersEachOnce(t *testing.T) {
	palettes := [][]colour{{black}, {clear, black}, {white, clear, black}, distinct(10), slices.Insert(distinct(40), 7, clear), distinct(256)}
	for k, from := range palettes {
		for _, s := range mayBe() {
			pixels := chosen(from, noise(k, s.w*s.h, len(from)))
			var colours []colour
			var index []byte
			for _, c := range pixels {
				if !slices.Contains(colours, c) {
					colours = append(colours, c)
				}
				index = append(index, byte(slices.Index(colours, c)))
			}
			wantMade(t, []any{k, s}, picture(s.w, pixels...), colours, slices.Index(colours, clear), index)
		}
	}
}

// P10.1: colours that differ in one sample alone have places of their own.
func TestMakeTellsColoursByEachSample(t *testing.T) {
	for sample := range 3 {
		near := black
		near[sample] = 257
		far := black
		far[sample] = 0xffff
		wantMade(t, sample, picture(4, black, near, far, near), []colour{black, near, far}, -1, []byte{0, 1, 2, 1})
	}
	wantMade(t, "black and clear", picture(4, black, clear, black, clear), []colour{black, clear}, 1, []byte{0, 1, 0, 1})
}

func TestMakeClear(t *testing.T) {
	wantMade(t, "at the first place", picture(4, clear, black, white, clear), []colour{clear, black, white}, 0, []byte{0, 1, 2, 0})
	wantMade(t, "in the middle", picture(4, black, clear, white, clear), []colour{black, clear, white}, 1, []byte{0, 1, 2, 1})
	wantMade(t, "at the last place", picture(4, black, white, black, clear), []colour{black, white, clear}, 2, []byte{0, 1, 0, 2})
	wantMade(t, "none", picture(4, black, white, ink, black), []colour{black, white, ink}, -1, []byte{0, 1, 2, 0})
	for place := range 11 {
		all := slices.Insert(distinct(10), place, clear)
		wantMade(t, place, picture(11, all...), all, place, counted(11))
	}
}

func TestMakeOf256Colours(t *testing.T) {
	wantMade(t, "no clear one", picture(16, distinct(256)...), distinct(256), -1, counted(256))
	for _, place := range []int{0, 1, 100, 254, 255} {
		all := slices.Insert(distinct(255), place, clear)
		wantMade(t, place, picture(16, all...), all, place, counted(256))
		again := picture(16, slices.Concat(all, all)...)
		wantMade(t, []any{place, "twice"}, again, all, place, slices.Concat(counted(256), counted(256)))
	}
}

func TestMakeOf257Colours(t *testing.T) {
	for _, w := range []int{20, 13} {
		all := append(distinct(257), black, black, black)
		wantNotMade(t, w, picture(w, all...))
		wantMade(t, w, picture(w, append(distinct(256), black, black, black, black)...), distinct(256), -1, append(counted(256), 0, 0, 0, 0))
		for _, place := range []int{0, 100, 256} {
			wantNotMade(t, []any{w, place}, picture(w, append(slices.Insert(distinct(256), place, clear), black, black, black)...))
		}
	}
	wantNotMade(t, "many", picture(128, distinct(128*128)...))
}

// P10.1: one pixel that no GIF holds, wherever it stands.
func TestMakeOfWhatNoGIFHolds(t *testing.T) {
	bad := []colour{
		{1, 0, 0, 0xffff}, {0, 256, 0, 0xffff}, {0, 0, 0x1213, 0xffff}, // no bytes
		{0, 0, 0, 0xfffe}, {0, 0, 0, 0xfefe}, {0, 0, 0, 257}, {0, 0, 0, 1}, {0x1212, 0x3434, 0x5656, 0x8080}, // half clear
		{257, 0, 0, 0}, {0, 257, 0, 0}, {0, 0, 257, 0}, {0xffff, 0xffff, 0xffff, 0}, // clear, and a colour
	}
	for _, c := range bad {
		wantNotMade(t, c, picture(1, c))
		for place := range 6 {
			pixels := []colour{black, clear, white, black, clear, white}
			wantMade(t, "without it", picture(3, pixels...), []colour{black, clear, white}, 1, []byte{0, 1, 2, 0, 1, 2})
			pixels[place] = c
			wantNotMade(t, []any{c, place}, picture(3, pixels...))
		}
	}
}

// P10.1, R1: pictures that may not be.
func TestMakeOfNoPicture(t *testing.T) {
	for s := range mayNot() {
		wantNotMade(t, s, api.Raster{W: s.w, H: s.h})
		wantNotMade(t, s, api.Raster{W: s.w, H: s.h, Pix: make([]uint16, 24)})
	}
	for _, s := range []sides{{257, 1}, {1, 257}, {256, 65}} {
		wantNotMade(t, s, api.Raster{W: s.w, H: s.h, Pix: make([]uint16, 4*s.w*s.h)})
	}
	for n := range 40 {
		r := api.Raster{W: 3, H: 2, Pix: make([]uint16, n)}
		if n == 24 {
			wantMade(t, n, r, []colour{clear}, 0, make([]byte, 6))
		} else {
			wantNotMade(t, n, r)
		}
	}
}

// P10.1, P10.2: what has a palette is drawn again from it, as it was.
func TestMakeAndDraw(t *testing.T) {
	for k, from := range [][]colour{{clear}, {black}, {white, clear}, distinct(16), slices.Insert(distinct(255), 100, clear)} {
		for _, s := range mayBe() {
			r := picture(s.w, chosen(from, noise(k, s.w*s.h, len(from)))...)
			p, index, ok := palette.Make(r)
			back, e := palette.Draw(p, s.w, s.h, index)
			if !ok || e != api.OK || !raster.Same(back, r) {
				t.Errorf("%d, %v: %v, %v, drawn %d by %d", k, s, ok, e, back.W, back.H)
			}
		}
	}
}

// R4: samples that are handed in are neither changed nor looked at behind their end.
func TestMakeChangesNothing(t *testing.T) {
	all := map[string]api.Raster{
		"a few":             picture(2, black, white, clear, black),
		"256 colours":       picture(16, distinct(256)...),
		"many colours":      picture(128, distinct(384)...),
		"what no GIF holds": picture(2, colour{1, 2, 3, 4}, black),
		"what may not be":   {W: 3, H: 2, Pix: make([]uint16, 20)},
		"what has no width": {W: 0, H: 2, Pix: make([]uint16, 24)},
	}
	for what, r := range all {
		pix, whole := spare(r.Pix, 9)
		before := slices.Clone(whole)
		p, index, ok := palette.Make(api.Raster{W: r.W, H: r.H, Pix: pix})
		scribble(p.Colours, ink)
		scribble(index, 99)
		if !slices.Equal(whole, before) {
			t.Error(what, "was changed")
		}
		if _, _, plain := palette.Make(r); ok != plain {
			t.Error(what, ": spare room counted")
		}
	}
}

// R4, R5: what was answered is its own, whatever comes of the picture and of other answers.
func TestMakeAnswersNewMemory(t *testing.T) {
	r := picture(2, black, white, clear, black)
	p, index, _ := palette.Make(r)
	other, otherIndex, _ := palette.Make(r)
	scribble(other.Colours, ink)
	scribble(otherIndex, 99)
	copy(r.Pix, ink[:])
	if !slices.Equal(p.Colours, []colour{black, white, clear}) || !bytes.Equal(index, []byte{0, 1, 2, 0}) {
		t.Error(p, index)
	}
	wantMade(t, "another picture in the same memory", r, []colour{ink, white, clear, black}, 2, []byte{0, 1, 2, 3})
}
