package palette_test

import (
	"math"
	"slices"
	"testing"

	"engraver/api"
	"engraver/palette"
)

// P10.2: each pixel is the colour at its place, row by row, whatever the colours.
func TestDraw(t *testing.T) {
	p := palette.Palette{Colours: []colour{black, white, ink}, Clear: -1}
	wantDrawn(t, "two rows", p, 3, 2, []byte{2, 0, 1, 1, 0, 0}, picture(3, ink, black, white, white, black, black))
	wantDrawn(t, "two columns", p, 2, 3, []byte{2, 0, 1, 1, 0, 0}, picture(2, ink, black, white, white, black, black))
	for _, n := range []int{1, 2, 3, 100, 255, 256} {
		colours := anySamples(n)
		for _, s := range mayBe() {
			index := noise(n, s.w*s.h, n)
			wantDrawn(t, []any{n, s}, palette.Palette{Colours: colours}, s.w, s.h, index, picture(s.w, chosen(colours, index)...))
		}
	}
}

// P10.2: the colours may be any: such as no GIF holds, some there twice, some not used.
func TestDrawOfAnyColours(t *testing.T) {
	for _, c := range []colour{{1, 2, 3, 4}, {0, 0, 0, 0x8080}, {257, 0, 0, 0}, {0xffff, 0xfffe, 1, 0}, clear, white} {
		wantDrawn(t, c, palette.Palette{Colours: []colour{c}}, 1, 1, []byte{0}, picture(1, c))
		twice := palette.Palette{Colours: []colour{c, black, c, clear, clear}}
		wantDrawn(t, c, twice, 2, 2, []byte{0, 2, 1, 2}, picture(2, c, c, black, c))
		wantDrawn(t, c, twice, 2, 2, []byte{4, 2, 2, 3}, picture(2, clear, c, c, clear))
	}
}

// P10.2: a place just beyond the last colour, and the last one; wherever it stands.
func TestDrawPlaces(t *testing.T) {
	for _, n := range []int{1, 2, 3, 128, 254, 255} {
		p := palette.Palette{Colours: anySamples(n)}
		for at := range 6 {
			index := make([]byte, 6)
			index[at] = byte(n - 1)
			wantDrawn(t, []any{n, at}, p, 3, 2, index, picture(3, chosen(p.Colours, index)...))
			for _, place := range []int{n, (n + 255) / 2, 255} {
				index[at] = byte(place)
				wantNotDrawn(t, []any{n, at, place}, p, 3, 2, index, api.ErrForm)
			}
		}
	}
	for _, n := range []int{256, 257, 1000} {
		p := palette.Palette{Colours: anySamples(n)}
		wantDrawn(t, n, p, 2, 1, []byte{255, 0}, picture(2, p.Colours[255], p.Colours[0]))
	}
}

func TestDrawOfNoColours(t *testing.T) {
	for _, p := range []palette.Palette{{}, {Colours: []colour{}}, {Clear: -1}, {Colours: anySamples(3)[:0]}} {
		wantNotDrawn(t, "one pixel", p, 1, 1, []byte{0}, api.ErrForm)
		wantNotDrawn(t, "more", p, 3, 2, make([]byte, 6), api.ErrForm)
		wantNotDrawn(t, "no places", p, 1, 1, nil, api.ErrShort)
		wantNotDrawn(t, "two places", p, 1, 1, make([]byte, 2), api.ErrLong)
	}
}

// P10.2: places too few, none at all, too many; also where one of them is none's.
func TestDrawCountsPlaces(t *testing.T) {
	p := palette.Palette{Colours: []colour{black, white}, Clear: -1}
	for _, s := range mayBe() {
		pixels := s.w * s.h
		for _, n := range []int{0, 1, pixels / 2, pixels - 1, pixels + 1, pixels + 2, 2 * pixels, 4*pixels + 1} {
			want := api.ErrShort
			if n == pixels {
				continue
			}
			if n > pixels {
				want = api.ErrLong
			}
			wantNotDrawn(t, []any{s, n}, p, s.w, s.h, make([]byte, n), want)
			wantNotDrawn(t, []any{s, n, "none's"}, p, s.w, s.h, slices.Repeat([]byte{2}, n), want)
			if n > 0 {
				last := make([]byte, n)
				last[n-1] = 255
				wantNotDrawn(t, []any{s, n, "the last is none's"}, p, s.w, s.h, last, want)
			}
		}
		wantNotDrawn(t, []any{s, "nil"}, p, s.w, s.h, nil, api.ErrShort)
		wantDrawn(t, s, p, s.w, s.h, slices.Repeat([]byte{1}, pixels), picture(s.w, slices.Repeat([]colour{white}, pixels)...))
	}
}

// P10.2: sides that may not be come first, whatever the places and the colours.
func TestDrawOfNoSides(t *testing.T) {
	for _, p := range []palette.Palette{{}, {Colours: anySamples(2)}} {
		for s, want := range mayNot() {
			for _, index := range [][]byte{nil, {0}, {2}, {0, 9}, make([]byte, 16640)} {
				wantNotDrawn(t, []any{s, len(index)}, p, s.w, s.h, index, want)
			}
			if s.w > 0 && s.w < 1000 && s.h > 0 && s.h < 1000 {
				wantNotDrawn(t, []any{s, "as many places"}, p, s.w, s.h, make([]byte, s.w*s.h), want)
			}
		}
	}
}

// P10.2: which place is called clear changes nothing.
func TestDrawTakesAnyClear(t *testing.T) {
	for _, place := range []int{math.MinInt, -2, -1, 0, 1, 2, 3, 255, 256, 1 << 40, math.MaxInt} {
		p := palette.Palette{Colours: []colour{ink, clear, {5, 6, 7, 8}}, Clear: place}
		wantDrawn(t, place, p, 3, 1, []byte{0, 1, 2}, picture(3, ink, clear, colour{5, 6, 7, 8}))
		wantNotDrawn(t, place, p, 1, 1, []byte{3}, api.ErrForm)
	}
}

// R4: neither colours nor places that are handed in are changed, and those in their spare room are none.
func TestDrawChangesNothing(t *testing.T) {
	for _, index := range [][]byte{{0, 1, 1}, {1}, {1, 0, 1, 0}, {0, 3, 0}, {2, 2, 2}} {
		colours, wholeColours := spare([]colour{black, white}, ink)
		places, wholePlaces := spare(index, 7)
		wantColours, wantPlaces := slices.Clone(wholeColours), slices.Clone(wholePlaces)
		r, e := palette.Draw(palette.Palette{Colours: colours}, 3, 1, places)
		scribble(r.Pix, 9)
		if !slices.Equal(wholeColours, wantColours) || !slices.Equal(wholePlaces, wantPlaces) {
			t.Error(index, "something was changed")
		}
		if _, plain := palette.Draw(palette.Palette{Colours: []colour{black, white}}, 3, 1, index); e != plain {
			t.Error(index, e, plain)
		}
	}
}

// R4, R5: what was drawn stays, whatever comes of the colours, of the places and of other pictures.
func TestDrawAnswersNewMemory(t *testing.T) {
	p := palette.Palette{Colours: []colour{black, white}}
	index := []byte{0, 1, 1, 0}
	r, _ := palette.Draw(p, 2, 2, index)
	other, _ := palette.Draw(p, 2, 2, index)
	scribble(other.Pix, 9)
	p.Colours[0] = ink
	index[1] = 0
	if want := picture(2, black, white, white, black); !slices.Equal(r.Pix, want.Pix) {
		t.Error(r)
	}
	wantDrawn(t, "others in the same memory", p, 2, 2, index, picture(2, ink, ink, white, ink))
}

func TestBits(t *testing.T) {
	for n, want := range map[int]int{
		math.MinInt: 1, math.MinInt + 1: 1, -1 << 32: 1, -257: 1, -1: 1, 0: 1, 1: 1, 2: 1, 3: 2, 4: 2, 5: 3, 8: 3, 9: 4, 16: 4, 17: 5,
		32: 5, 33: 6, 64: 6, 65: 7, 128: 7, 129: 8, 255: 8, 256: 8, 257: 8, 512: 8, 513: 8, 1 << 16: 8, 1 << 32: 8, 1<<32 + 1: 8,
		1 << 62: 8, math.MaxInt - 1: 8, math.MaxInt: 8,
	} {
		if got := palette.Bits(n); got != want {
			t.Errorf("%d: %d, want %d", n, got, want)
		}
	}
}

// P10.2: the least of them, of each number that a byte's places are many.
func TestBitsAreTheLeast(t *testing.T) {
	powers := []int{2, 4, 8, 16, 32, 64, 128, 256}
	for n := -300; n <= 256; n++ {
		least := slices.IndexFunc(powers, func(power int) bool { return power >= n })
		if got := palette.Bits(n); got != least+1 {
			t.Errorf("%d: %d, want %d", n, got, least+1)
		}
	}
}
