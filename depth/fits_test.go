package depth_test

import (
	"fmt"
	"slices"
	"testing"

	"engraver/api"
	"engraver/depth"
)

// P9.2: pictures that each format holds, of any sides; wantFits asks of formats that are none, too.
func TestFitsAll(t *testing.T) {
	for _, s := range mayBe() {
		for _, p := range [][4]uint16{nothing, black, white, ink} {
			wantFits(t, []any{s, p}, filled(s.w, s.h, p), true, true, true)
		}
	}
	wantFits(t, "a few pixels", row(black, white, ink, nothing, ink), true, true, true)
}

// P9.2: one that may not be fits nothing.
func TestNoPictureFits(t *testing.T) {
	for what, r := range wrong() {
		wantFits(t, what, r, false, false, false)
	}
}

// P9.2: PNG holds any samples.
func TestFitsPNG(t *testing.T) {
	for _, s := range mayBe() {
		wantFits(t, s, noisy(s.w, s.h), true, false, false)
	}
	for s := range 1 << 16 {
		for at := range 4 {
			p := black
			p[at] = uint16(s)
			if !depth.Fits(row(p), api.PNG) {
				t.Error(p)
			}
		}
	}
}

// P9.2: BMP holds all that are bytes, whatever the alpha, however many.
func TestFitsBMP(t *testing.T) {
	for _, s := range mayBe() {
		wantFits(t, s, bytesOnly(s.w, s.h), true, false, true)
	}
	wantFits(t, "half clear", row([4]uint16{0, 0, 0, 0x8080}), true, false, true)
	wantFits(t, "clear, with a colour", row([4]uint16{257, 0, 0, 0}), true, false, true)
}

// P9.2: every sample in each place of one pixel: of BMP the multiples of 257, of GIF of an opaque one those of its colours, of a clear one none but 0.
func TestFitsEverySample(t *testing.T) {
	for s := range 1 << 16 {
		eight := s%257 == 0
		for at := range 4 {
			solid, clear := black, nothing
			solid[at], clear[at] = uint16(s), uint16(s)
			for _, c := range []struct {
				p        [4]uint16
				gif, bmp bool
			}{
				{solid, eight && at < 3 || s == 0xffff || solid == nothing, eight},
				{clear, s == 0 || clear == black, eight},
			} {
				if r := row(c.p); depth.Fits(r, api.GIF) != c.gif || depth.Fits(r, api.BMP) != c.bmp {
					t.Errorf("%v: GIF %v, BMP %v", c.p, !c.gif, !c.bmp)
				}
			}
		}
	}
}

// P9.2: one sample that is no multiple of 257, wherever it stands, by as little as one.
func TestOneSampleThatIsNoByte(t *testing.T) {
	small := filled(3, 2, ink)
	for i := range small.Pix {
		for _, s := range []uint16{1, 256, 258, 0x1213, 65534, 65535 - 256} {
			r := like(small)
			r.Pix[i] = s
			wantFits(t, []any{i, s}, r, true, false, false)
		}
	}
	for _, s := range mayBe() {
		whole := filled(s.w, s.h, ink)
		for _, i := range []int{0, 1, 2, 3, len(whole.Pix) / 2, len(whole.Pix) - 4, len(whole.Pix) - 3, len(whole.Pix) - 2, len(whole.Pix) - 1} {
			r := like(whole)
			r.Pix[i]--
			wantFits(t, []any{s, i}, r, true, false, false)
		}
	}
}

// P9.2: an alpha that is a byte's, but neither 0 nor 65535, at either end and within.
func TestGIFHasNoHalfAlpha(t *testing.T) {
	whole := filled(3, 2, ink)
	for place := range 6 {
		for alpha := 1; alpha < 255; alpha++ {
			p := ink
			p[3] = uint16(alpha * 257)
			wantFits(t, p, with(whole, place, p), true, false, true)
		}
	}
	large := filled(128, 128, black)
	for _, place := range []int{0, 8000, 128*128 - 1} {
		wantFits(t, place, with(large, place, [4]uint16{0, 0, 0, 257}), true, false, true)
	}
}

// P9.2: a clear pixel with one sample above 0, at either end and within.
func TestGIFHasNoColourWhereClear(t *testing.T) {
	whole := filled(3, 2, ink)
	for place := range 6 {
		wantFits(t, place, with(whole, place, nothing), true, true, true)
		for sample := range 3 {
			for v := 1; v < 256; v++ {
				p := nothing
				p[sample] = uint16(v * 257)
				wantFits(t, p, with(whole, place, p), true, false, true)
			}
		}
	}
	large := filled(128, 128, nothing)
	for _, place := range []int{0, 8000, 128*128 - 1} {
		wantFits(t, place, with(large, place, [4]uint16{0, 0, 257, 0}), true, false, true)
	}
}

// P9.2: just 256 unlike pixels, and one more, wherever it stands.
func TestGIFHas256Colours(t *testing.T) {
	for _, s := range []sides{{256, 1}, {16, 16}, {128, 3}, {1, 256}, {256, 64}, {128, 128}} {
		for _, n := range []int{1, 2, 255, 256} {
			wantFits(t, []any{s, n}, withColours(s.w, s.h, n), true, true, true)
		}
	}
	for _, s := range []sides{{128, 3}, {20, 13}, {256, 64}, {128, 128}} {
		wantFits(t, s, withColours(s.w, s.h, 257), true, false, true)
		full := withColours(s.w, s.h, 256)
		for _, place := range []int{256, 257, s.w*s.h - 1} {
			wantFits(t, []any{s, place}, with(full, place, white), true, false, true)
			wantFits(t, []any{s, place}, with(full, place, black), true, true, true)
		}
		slices.Reverse(full.Pix) // and each pixel back again: the last one is the first
		for i := 0; i < len(full.Pix); i += 4 {
			slices.Reverse(full.Pix[i : i+4])
		}
		wantFits(t, []any{s, 0}, with(full, 0, white), true, false, true)
	}
}

// P9.2: colours that differ in one sample alone, whichever, are unlike.
func TestGIFTellsColoursByEachSample(t *testing.T) {
	for sample := range 3 {
		r := filled(20, 13, black)
		for i := range 256 {
			r.Pix[4*i+sample] = uint16(i * 257)
		}
		wantFits(t, sample, r, true, true, true)
		wantFits(t, sample, with(r, 259, [4]uint16{257, 514, 771, 0xffff}), true, false, true)
	}
}

// P9.2: a clear pixel is one of the 256.
func TestGIFCountsTheClearColour(t *testing.T) {
	for _, place := range []int{0, 100, 255} {
		among := with(withColours(16, 16, 256), place, nothing)
		wantFits(t, place, among, true, true, true)
	}
	for _, s := range []sides{{20, 13}, {128, 128}} {
		wantFits(t, s, with(withColours(s.w, s.h, 255), s.w*s.h-1, nothing), true, true, true)
		for _, place := range []int{256, 259, s.w*s.h - 1} {
			wantFits(t, s, with(withColours(s.w, s.h, 256), place, nothing), true, false, true)
		}
	}
}

// R4: what is handed in is not changed, its spare room neither.
func TestFitsChangesNothing(t *testing.T) {
	all := wrong()
	all["one that fits"] = withColours(16, 16, 256)
	all["one of many colours"] = withColours(128, 128, 300)
	all["one of any samples"] = noisy(128, 128)
	all["one of any bytes"] = bytesOnly(7, 5)
	for what, r := range all {
		whole := slices.Concat(r.Pix, []uint16{1, 2, 3, 4, 5, 6, 7, 8})
		before := slices.Clone(whole)
		for format := range 5 {
			depth.Fits(api.Raster{W: r.W, H: r.H, Pix: whole[:len(r.Pix)]}, format)
		}
		if !slices.Equal(whole, before) {
			t.Error(what, "was changed")
		}
	}
}

// R4, R5: nothing is kept: the same memory with other samples is another picture.
func TestFitsKeepsNothing(t *testing.T) {
	r := filled(3, 2, ink)
	for i := range r.Pix {
		wantFits(t, fmt.Sprint("ahead of ", i), r, true, true, true)
		was := r.Pix[i]
		r.Pix[i] = 1
		wantFits(t, i, r, true, false, false)
		r.Pix[i] = was
	}
}

// P9.2: samples behind the last pixel, in spare room, do not count.
func TestSpareRoomDoesNotCount(t *testing.T) {
	r := filled(3, 2, ink)
	r.Pix = append(r.Pix, 1, 2, 3, 4)[:24]
	wantFits(t, "with spare room", r, true, true, true)
}
