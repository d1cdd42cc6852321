package depth_test

import (
	"math"
	"slices"
	"testing"

	"engraver/api"
	"engraver/depth"
)

// dice answers numbers that look like none in particular, the same ones for the same start.
type dice uint32

func (d *dice) below(n int) int {
	*d = *d*1664525 + 1013904223
	return int(uint64(*d) * uint64(n) >> 32) // by the highest bits: the lowest come again too soon
}

// far are numbers far from all that may be, and such as wrap round where they are scaled.
func far() []int {
	out := []int{math.MinInt, math.MinInt + 1, math.MaxInt - 1, math.MaxInt, -257, -256, -255, 1 << 17, 1 << 20}
	for shift := 31; shift < 63; shift++ {
		out = append(out, 1<<shift, 1<<shift-1, 1<<shift+1, -1<<shift, 1-1<<shift)
	}
	return out
}

// sides are two numbers that might be a picture's sides.
type sides struct{ w, h int }

// mayBe are sides of pictures, the edges of both limits among them.
func mayBe() []sides {
	return []sides{{1, 1}, {2, 1}, {1, 2}, {3, 2}, {7, 5}, {256, 1}, {1, 256}, {256, 64}, {64, 256}, {128, 128}}
}

// filled answers a picture whose pixels are p.
func filled(w, h int, p [4]uint16) api.Raster {
	r := api.Raster{W: w, H: h}
	for range w * h {
		r.Pix = append(r.Pix, p[:]...)
	}
	return r
}

// row answers a picture of one row.
func row(pixels ...[4]uint16) api.Raster {
	r := api.Raster{W: len(pixels), H: 1}
	for _, p := range pixels {
		r.Pix = append(r.Pix, p[:]...)
	}
	return r
}

// noisy answers a picture of any samples.
func noisy(w, h int) api.Raster {
	r := filled(w, h, nothing)
	d := dice(w<<9 + h)
	for i := range r.Pix {
		r.Pix[i] = uint16(d.below(1 << 16))
	}
	return r
}

// bytesOnly answers a picture of samples that are a byte's, any others.
func bytesOnly(w, h int) api.Raster {
	r := noisy(w, h)
	for i := range r.Pix {
		r.Pix[i] = r.Pix[i] % 256 * 257
	}
	return r
}

// withColours answers a picture of n unlike opaque pixels, in turn.
func withColours(w, h, n int) api.Raster {
	r := filled(w, h, black)
	for i := range w * h {
		k := i % n
		copy(r.Pix[4*i:], []uint16{uint16(k % 7 * 257), uint16(k / 7 % 11 * 257), uint16(k / 77 * 257)})
	}
	return r
}

var (
	nothing = [4]uint16{}
	black   = [4]uint16{0, 0, 0, 0xffff}
	white   = [4]uint16{0xffff, 0xffff, 0xffff, 0xffff}
	ink     = [4]uint16{0x1212, 0x3434, 0x5656, 0xffff}
)

// with answers r with another pixel in a place, in new memory.
func with(r api.Raster, place int, p [4]uint16) api.Raster {
	out := like(r)
	copy(out.Pix[4*place:], p[:])
	return out
}

// like answers r in new memory.
func like(r api.Raster) api.Raster {
	return api.Raster{W: r.W, H: r.H, Pix: slices.Clone(r.Pix)}
}

// wrong are pictures that may not be, of samples that each format could hold.
func wrong() map[string]api.Raster {
	all := make([]uint16, 64)
	return map[string]api.Raster{
		"the zero one":                {},
		"samples without sides":       {Pix: all[:24]},
		"no samples":                  {W: 3, H: 2},
		"no samples, an empty list":   {W: 3, H: 2, Pix: []uint16{}},
		"a sample too few":            {W: 3, H: 2, Pix: all[:23]},
		"a sample too many":           {W: 3, H: 2, Pix: all[:25]},
		"a pixel too few":             {W: 3, H: 2, Pix: all[:20]},
		"a pixel too many":            {W: 3, H: 2, Pix: all[:28]},
		"three samples a pixel":       {W: 3, H: 2, Pix: all[:18]},
		"one pixel, a sample too few": {W: 1, H: 1, Pix: all[:3]},
		"no width":                    {W: 0, H: 2, Pix: all[:24]},
		"no height":                   {W: 3, H: 0, Pix: all[:24]},
		"both below 0":                {W: -3, H: -2, Pix: all[:24]},
		"too wide":                    {W: 257, H: 1, Pix: make([]uint16, 4*257)},
		"too high":                    {W: 1, H: 257, Pix: make([]uint16, 4*257)},
		"too many pixels":             {W: 256, H: 65, Pix: make([]uint16, 4*256*65)},
		"sides that wrap round":       {W: 1 << 32, H: 1 << 32},
	}
}

// wantFits asks of all three formats, and of some that are none.
func wantFits(t *testing.T, what any, r api.Raster, png, gif, bmp bool) {
	t.Helper()
	if got := depth.Fits(r, api.PNG); got != png {
		t.Errorf("%v: PNG %v", what, got)
	}
	if got := depth.Fits(r, api.GIF); got != gif {
		t.Errorf("%v: GIF %v", what, got)
	}
	if got := depth.Fits(r, api.BMP); got != bmp {
		t.Errorf("%v: BMP %v", what, got)
	}
	for _, format := range []int{0, 4, 5, -1, -2, -3, 257, 1<<32 + 1, math.MinInt, math.MaxInt} {
		if depth.Fits(r, format) {
			t.Errorf("%v: format %d, which is none", what, format)
		}
	}
}

// wantSample asks for a sample, and for true.
func wantSample(t *testing.T, what any, got uint16, ok bool, want int) {
	t.Helper()
	if int(got) != want || !ok {
		t.Errorf("%v: %d %v, want %d true", what, got, ok, want)
	}
}

// wantNone asks for false, and for 0 beside it.
func wantNone(t *testing.T, what any, got uint16, ok bool) {
	t.Helper()
	if got != 0 || ok {
		t.Errorf("%v: %d %v, want 0 false", what, got, ok)
	}
}
