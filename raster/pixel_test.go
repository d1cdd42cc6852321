package raster_test

import (
	"math"
	"slices"
	"testing"

	"engraver/api"
	"engraver/raster"
)

var (
	nothing = [4]uint16{}
	ink     = [4]uint16{0x1234, 0xfedc, 0, 0xffff}
)

// beyond are places that no picture of such sides has.
func beyond(w, h int) [][2]int {
	return [][2]int{
		{w, 0}, {0, h}, {w, h}, {w, h - 1}, {w - 1, h}, {w + 1, 0}, {0, h + 1},
		{-1, 0}, {0, -1}, {-1, -1}, {-1, h - 1}, {w - 1, -1}, {-1, 1}, {-w, 1}, {w, -1},
		{math.MinInt, 0}, {0, math.MinInt}, {math.MaxInt, 0}, {0, math.MaxInt},
		{math.MaxInt, math.MaxInt}, {math.MinInt, math.MinInt}, {0, 1 << 62}, {1 << 62, 0}, {1 << 32, 1 << 32},
	}
}

// P8.1: At answers each pixel's samples, row by row from the top.
func TestAt(t *testing.T) {
	for _, s := range mayBe() {
		r := picture(s.w, s.h)
		rest := r.Pix
		for y := range s.h {
			for x := range s.w {
				if p, ok := raster.At(r, x, y); p != [4]uint16(rest) || !ok {
					t.Fatal(s, x, y, p, ok, rest[:4])
				}
				rest = rest[4:]
			}
		}
	}
}

// P8.1: the corners of a small picture, written out.
func TestAtTheCorners(t *testing.T) {
	r := api.Raster{W: 2, H: 3, Pix: []uint16{
		1, 2, 3, 4, 5, 6, 7, 8,
		9, 10, 11, 12, 13, 14, 15, 16,
		17, 18, 19, 20, 21, 22, 23, 65535,
	}}
	for place, want := range map[[2]int][4]uint16{
		{0, 0}: {1, 2, 3, 4}, {1, 0}: {5, 6, 7, 8}, {0, 2}: {17, 18, 19, 20}, {1, 2}: {21, 22, 23, 65535},
	} {
		if p, ok := raster.At(r, place[0], place[1]); p != want || !ok {
			t.Error(place, p, ok)
		}
	}
}

// P8.1, R2: where there is no such pixel At answers nothing.
func TestAtBeyond(t *testing.T) {
	for _, s := range mayBe() {
		r := picture(s.w, s.h)
		for _, place := range beyond(s.w, s.h) {
			if p, ok := raster.At(r, place[0], place[1]); p != nothing || ok {
				t.Error(s, place, p, ok)
			}
		}
	}
}

// P8.1, R2: of a picture that may not be At answers nothing, though there are samples at the place.
func TestAtOfNoPicture(t *testing.T) {
	for what, r := range wrong() {
		for _, place := range append(beyond(r.W, r.H), [2]int{0, 0}, [2]int{1, 0}, [2]int{0, 1}) {
			if p, ok := raster.At(r, place[0], place[1]); p != nothing || ok {
				t.Error(what, place, p, ok)
			}
		}
	}
}

// P8.1: Set changes that pixel's samples in the picture itself, and nothing else.
func TestSet(t *testing.T) {
	for _, s := range []sides{{1, 1}, {2, 1}, {1, 2}, {3, 2}, {7, 5}} {
		for place := range s.w * s.h {
			x, y := place%s.w, place/s.w
			r := picture(s.w, s.h)
			r.Pix = append(slices.Clip(r.Pix), noise(7, 8, 1<<16)...)
			want := like(r)
			copy(want.Pix[4*place:], ink[:])
			whole := r.Pix
			r.Pix = whole[:4*s.w*s.h]
			if !raster.Set(r, x, y, ink) {
				t.Error(s, x, y, "refused")
			}
			if !slices.Equal(whole, want.Pix) {
				t.Error(s, x, y, whole, want.Pix)
			}
			if p, ok := raster.At(r, x, y); p != ink || !ok {
				t.Error(s, x, y, p, ok)
			}
		}
	}
}

// P8.1: Set at the corners of the greatest pictures.
func TestSetAtTheCorners(t *testing.T) {
	for _, s := range mayBe() {
		for _, place := range [][2]int{{0, 0}, {s.w - 1, 0}, {0, s.h - 1}, {s.w - 1, s.h - 1}} {
			r, _ := raster.New(s.w, s.h)
			want := like(r)
			copy(want.Pix[4*(place[1]*s.w+place[0]):], ink[:])
			if !raster.Set(r, place[0], place[1], ink) {
				t.Error(s, place, "refused")
			}
			wantPicture(t, place, r, want)
		}
	}
}

// P8.1: where there is no such pixel Set says so, and changes nothing.
func TestSetBeyond(t *testing.T) {
	for _, s := range mayBe() {
		for _, place := range beyond(s.w, s.h) {
			wantUntouched(t, place, picture(s.w, s.h), func(r api.Raster) {
				if raster.Set(r, place[0], place[1], ink) {
					t.Error(s, place, "taken")
				}
			})
		}
	}
}

// P8.1: a picture that may not be is refused, and not changed.
func TestSetOfNoPicture(t *testing.T) {
	for what, wrong := range wrong() {
		for _, place := range append(beyond(wrong.W, wrong.H), [2]int{0, 0}, [2]int{1, 0}, [2]int{0, 1}) {
			wantUntouched(t, what, wrong, func(r api.Raster) {
				if raster.Set(r, place[0], place[1], ink) {
					t.Error(what, place, "taken")
				}
			})
		}
	}
}

// R4: At changes nothing; what it answered stays as it was when the picture changes, and Set does not keep it.
func TestAtAndSetKeepNothing(t *testing.T) {
	wantUntouched(t, "At", picture(3, 2), func(r api.Raster) { raster.At(r, 2, 1) })
	r := picture(3, 2)
	before := [4]uint16(r.Pix[8:])
	p, _ := raster.At(r, 2, 0)
	raster.Set(r, 2, 0, ink)
	if p != before {
		t.Error("what was answered changed with the picture")
	}
	p[0]++
	if again, _ := raster.At(r, 2, 0); again != ink {
		t.Error("the picture changed with what was answered")
	}
	other, _ := raster.New(3, 2)
	raster.Set(other, 0, 0, before)
	if again, _ := raster.At(r, 0, 0); again != [4]uint16(picture(3, 2).Pix) {
		t.Error("setting in one picture changed another")
	}
}
