package raster_test

import (
	"fmt"
	"slices"
	"testing"

	"engraver/api"
	"engraver/raster"
)

func wantSame(t *testing.T, what any, a, b api.Raster, want bool) {
	t.Helper()
	if raster.Same(a, b) != want || raster.Same(b, a) != want {
		t.Errorf("%v: want %v both ways", what, want)
	}
}

// P8.1: the same sides and samples, in whatever memory.
func TestSame(t *testing.T) {
	for _, s := range mayBe() {
		r := picture(s.w, s.h)
		wantSame(t, s, r, r, true)
		wantSame(t, s, r, like(r), true)
		spare := like(r)
		spare.Pix = slices.Grow(spare.Pix, 8)
		wantSame(t, s, r, spare, true)
	}
}

// P8.1: one unlike sample, wherever, in whichever bit.
func TestSameTellsEachSample(t *testing.T) {
	r := picture(3, 2)
	for i := range r.Pix {
		for bit := range 16 {
			other := like(r)
			other.Pix[i] ^= 1 << bit
			wantSame(t, []int{i, bit}, r, other, false)
		}
	}
	for _, s := range mayBe() {
		r := picture(s.w, s.h)
		for _, i := range []int{0, 3, len(r.Pix) - 4, len(r.Pix) - 1} {
			other := like(r)
			other.Pix[i]++
			wantSame(t, []any{s, i}, r, other, false)
		}
	}
}

// P8.1: unlike sides, also with the same samples.
func TestSameTellsSides(t *testing.T) {
	for _, s := range mayBe() {
		r := picture(s.w, s.h)
		turned := api.Raster{W: s.h, H: s.w, Pix: r.Pix}
		wantSame(t, s, r, turned, s.w == s.h)
	}
	row := picture(12, 1)
	for _, s := range []sides{{6, 2}, {4, 3}, {3, 4}, {2, 6}, {1, 12}} {
		wantSame(t, s, row, api.Raster{W: s.w, H: s.h, Pix: row.Pix}, false)
	}
	a, _ := raster.New(3, 2)
	b, _ := raster.New(3, 3)
	wantSame(t, "one row more", a, b, false)
	c, _ := raster.New(4, 2)
	wantSame(t, "one column more", a, c, false)
}

// P8.1: of pictures that may not be it is false, also of two that are alike.
func TestSameOfNoPicture(t *testing.T) {
	good := picture(3, 2)
	for what, r := range wrong() {
		wantSame(t, what, r, r, false)
		wantSame(t, what, r, like(r), false)
		wantSame(t, what, r, good, false)
		wantSame(t, what, r, api.Raster{}, false)
	}
}

// P8.1: Copy answers the same picture.
func TestCopy(t *testing.T) {
	for _, s := range mayBe() {
		r := picture(s.w, s.h)
		wantPicture(t, s, raster.Copy(r), r)
		wantSame(t, s, raster.Copy(r), r, true)
	}
}

// P8.1: one that may not be is copied as it is.
func TestCopyOfNoPicture(t *testing.T) {
	for what, r := range wrong() {
		wantPicture(t, what, raster.Copy(r), r)
	}
}

// P8.1, R4: setting in one does not change the other, nor does writing over spare room.
func TestCopyIsNewMemory(t *testing.T) {
	r := picture(3, 2)
	c, d := raster.Copy(r), raster.Copy(r)
	raster.Set(c, 1, 1, ink)
	wantPicture(t, "the picture, its copy set", r, picture(3, 2))
	raster.Set(r, 2, 1, ink)
	wantPicture(t, "the other copy, the picture set", d, picture(3, 2))
	for what, r := range wrong() {
		before := like(r)
		c := raster.Copy(r)
		scribble(c.Pix)
		wantPicture(t, what, r, before)
	}
}

// R4: no room is shared behind the samples either.
func TestCopySharesNoSpareRoom(t *testing.T) {
	wantUntouched(t, "a copy written over", picture(3, 2), func(r api.Raster) {
		c := raster.Copy(r)
		scribble(c.Pix)
	})
	wantUntouched(t, "an empty copy written over", api.Raster{W: 3, H: 2}, func(r api.Raster) {
		c := raster.Copy(r)
		scribble(c.Pix)
	})
	wantUntouched(t, "a copy appended to", picture(3, 2), func(r api.Raster) {
		c := raster.Copy(r)
		_ = append(c.Pix, 9, 9, 9, 9)
	})
}

// R4: comparing and counting change nothing.
func TestNothingIsChanged(t *testing.T) {
	all := wrong()
	all["a picture"] = picture(3, 2)
	all["a great one"] = picture(128, 128)
	for what, r := range all {
		other := like(r)
		wantUntouched(t, fmt.Sprint("Same, ", what), r, func(r api.Raster) {
			raster.Same(r, other)
			raster.Same(other, r)
		})
		wantUntouched(t, fmt.Sprint("Colours, ", what), r, func(r api.Raster) {
			raster.Colours(r, 1)
			raster.Colours(r, 1<<20)
		})
		wantUntouched(t, fmt.Sprint("Copy, ", what), r, func(r api.Raster) { raster.Copy(r) })
	}
}
