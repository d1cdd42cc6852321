package raster_test

import (
	"math"
	"testing"

	"engraver/api"
	"engraver/raster"
)

// P8.2: one colour, of pictures of any sides.
func TestOneColour(t *testing.T) {
	for _, s := range mayBe() {
		r, _ := raster.New(s.w, s.h)
		wantColours(t, s, r, 1)
		for i := range r.Pix {
			r.Pix[i] = ink[i%4]
		}
		wantColours(t, s, r, 1)
	}
}

// P8.2: as many colours as pixels.
func TestAsManyColoursAsPixels(t *testing.T) {
	for _, s := range mayBe() {
		r, _ := raster.New(s.w, s.h)
		for place := range s.w * s.h {
			r.Pix[4*place+place%4] = uint16(place + 1)
		}
		wantColours(t, s, r, s.w*s.h)
	}
}

// P8.2: pixels that differ in one sample alone, in one bit alone, are unlike.
func TestColoursTellEachBit(t *testing.T) {
	for _, first := range [][4]uint16{nothing, ink, {0xffff, 0xffff, 0xffff, 0xffff}} {
		for sample := range 4 {
			for bit := range 16 {
				r, _ := raster.New(2, 2)
				for place := range 4 {
					copy(r.Pix[4*place:], first[:])
				}
				r.Pix[4+sample] ^= 1 << bit
				wantColours(t, []any{first, sample, bit}, r, 2)
			}
		}
	}
}

// P8.2: the same samples in another order are another colour.
func TestColoursTellSamplesApart(t *testing.T) {
	r := api.Raster{W: 6, H: 1, Pix: []uint16{
		1, 2, 3, 4, 4, 3, 2, 1, 1, 2, 4, 3,
		2, 1, 3, 4, 1, 2, 3, 4, 3, 4, 1, 2,
	}}
	wantColours(t, "samples in other orders", r, 5)
}

// P8.2: a colour counts once, wherever it comes again.
func TestColoursCountOnce(t *testing.T) {
	for _, values := range []int{1, 2, 3, 10, 300} {
		for _, s := range mayBe() {
			r, _ := raster.New(s.w, s.h)
			seen := map[[4]uint16]int{}
			d := dice(values)
			for place := range s.w * s.h {
				p := [4]uint16{uint16(d.below(values)), 7, uint16(d.below(2)), 0xffff}
				copy(r.Pix[4*place:], p[:])
				seen[p]++
			}
			wantColours(t, []any{values, s}, r, len(seen))
		}
	}
}

// P8.2: the alpha of a pixel counts, and so do the colours of clear ones.
func TestColoursOfClearPixels(t *testing.T) {
	r := api.Raster{W: 3, H: 1, Pix: []uint16{1, 0, 0, 0, 2, 0, 0, 0, 2, 0, 0, 1}}
	wantColours(t, "clear pixels", r, 3)
}

// P8.2: most below 1: there is always a colour.
func TestColoursOfMostBelowOne(t *testing.T) {
	r, _ := raster.New(1, 1)
	for _, most := range []int{0, -1, math.MinInt} {
		wantNoColours(t, "one pixel", r, most)
	}
	wantColours(t, "one pixel", r, 1)
}

// P8.2, R2: false of one that may not be, whatever most.
func TestColoursOfNoPicture(t *testing.T) {
	for what, r := range wrong() {
		for _, most := range []int{math.MinInt, -1, 0, 1, 2, 24, 1 << 14, math.MaxInt} {
			wantNoColours(t, what, r, most)
		}
	}
}
