package raster_test

import (
	"fmt"
	"slices"
	"testing"

	"engraver/api"
	"engraver/raster"
)

// P8.1: the chapter's examples.
func TestSizeExamples(t *testing.T) {
	if e := raster.Size(256, 65); e != api.ErrSize {
		t.Error(e)
	}
	if e := raster.Size(0, 9); e != api.ErrArg {
		t.Error(e)
	}
}

// P8.1: the edges of both limits, wrong sides, ErrArg ahead of ErrSize.
func TestSizeAtTheEdges(t *testing.T) {
	for _, s := range mayBe() {
		if e := raster.Size(s.w, s.h); e != api.OK {
			t.Error(s, e)
		}
	}
	for s, want := range mayNot() {
		if e := raster.Size(s.w, s.h); e != want {
			t.Errorf("%v: %v, want %v", s, e, want)
		}
	}
}

// P8.1: all sides from a few below 0 to a few beyond the limit.
func TestSizeOfAllSides(t *testing.T) {
	for w := -3; w <= 260; w++ {
		for h := -3; h <= 260; h++ {
			want := api.OK
			if w > 256 || h > 256 || w*h > 16384 {
				want = api.ErrSize
			}
			if w < 1 || h < 1 {
				want = api.ErrArg
			}
			if e := raster.Size(w, h); e != want {
				t.Errorf("%d by %d: %v, want %v", w, h, e, want)
			}
		}
	}
}

// P8.1, R2: New's samples are all 0, four a pixel; with an error there are neither sides nor samples.
func TestNew(t *testing.T) {
	for _, s := range mayBe() {
		r, e := raster.New(s.w, s.h)
		if e != api.OK {
			t.Error(s, e)
		}
		wantPicture(t, s, r, api.Raster{W: s.w, H: s.h, Pix: make([]uint16, 4*s.w*s.h)})
	}
	for s, want := range mayNot() {
		r, e := raster.New(s.w, s.h)
		if e != want {
			t.Errorf("%v: %v, want %v", s, e, want)
		}
		wantPicture(t, s, r, api.Raster{})
	}
}

// P8.1: what New makes may be; also with other samples, and with spare room behind them.
func TestMay(t *testing.T) {
	for _, s := range mayBe() {
		r, _ := raster.New(s.w, s.h)
		if !raster.May(r) || !raster.May(picture(s.w, s.h)) {
			t.Error(s)
		}
		r.Pix = slices.Grow(r.Pix, 9)
		if !raster.May(r) {
			t.Error(s, "with spare room")
		}
	}
}

// P8.1: one that may not be, by its sides or by its samples.
func TestMayNot(t *testing.T) {
	for what, r := range wrong() {
		if raster.May(r) {
			t.Error(what)
		}
	}
	for s := range mayNot() {
		for _, n := range []int{0, 1, 3, 4, 8, 16} {
			if raster.May(api.Raster{W: s.w, H: s.h, Pix: make([]uint16, n)}) {
				t.Error(s, n)
			}
		}
	}
}

// P8.1: just four samples a pixel, of each number of samples round about.
func TestMayCountsSamples(t *testing.T) {
	for _, s := range []sides{{1, 1}, {1, 2}, {2, 1}, {3, 2}} {
		for n := range 40 {
			if got := raster.May(api.Raster{W: s.w, H: s.h, Pix: make([]uint16, n)}); got != (n == 4*s.w*s.h) {
				t.Error(s, n, got)
			}
		}
	}
}

// R4: New's samples are memory of their own.
func TestNewIsNewMemory(t *testing.T) {
	a, _ := raster.New(3, 2)
	b, _ := raster.New(3, 2)
	scribble(a.Pix)
	zero := make([]uint16, 24)
	if !slices.Equal(b.Pix, zero) {
		t.Error("two pictures share samples")
	}
	if c, _ := raster.New(3, 2); !slices.Equal(c.Pix, zero) {
		t.Error("a picture was kept")
	}
}

// R4: Size, New and May have nothing to change; May is the one that is handed samples.
func TestMayChangesNothing(t *testing.T) {
	wantUntouched(t, "May", picture(3, 2), func(r api.Raster) { raster.May(r) })
	for what, r := range wrong() {
		wantUntouched(t, fmt.Sprint("May, ", what), r, func(r api.Raster) { raster.May(r) })
	}
}
