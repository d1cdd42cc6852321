package raster_test

import (
	"math"
	"slices"
	"testing"

	"engraver/api"
	"engraver/raster"
)

// dice answers numbers that look like none in particular, the same ones for the same start.
type dice uint32

func (d *dice) below(n int) int {
	*d = *d*1664525 + 1013904223
	return int(uint64(*d) * uint64(n) >> 32) // by the highest bits: the lowest come again too soon
}

// noise answers n samples that look like none in particular, of so many values.
func noise(start, n, values int) []uint16 {
	d := dice(start)
	out := make([]uint16, n)
	for i := range out {
		out[i] = uint16(d.below(values))
	}
	return out
}

// picture answers one with any samples.
func picture(w, h int) api.Raster {
	return api.Raster{W: w, H: h, Pix: noise(w<<9+h, 4*w*h, 1<<16)}
}

// like answers r with memory of its own, without asking the package.
func like(r api.Raster) api.Raster {
	return api.Raster{W: r.W, H: r.H, Pix: slices.Clone(r.Pix)}
}

// sides are two numbers that might be a picture's sides.
type sides struct{ w, h int }

// mayBe are sides of pictures, the edges of both limits among them.
func mayBe() []sides {
	return []sides{{1, 1}, {2, 1}, {1, 2}, {3, 2}, {7, 5}, {256, 1}, {1, 256}, {256, 64}, {64, 256}, {255, 64}, {252, 65}, {65, 252}, {128, 128}, {127, 129}}
}

// mayNot are sides of no picture, with what Size tells of them.
func mayNot() map[sides]api.Errno {
	return map[sides]api.Errno{
		{0, 1}: api.ErrArg, {1, 0}: api.ErrArg, {0, 0}: api.ErrArg, {0, 9}: api.ErrArg, {9, 0}: api.ErrArg,
		{-1, 1}: api.ErrArg, {1, -1}: api.ErrArg, {-1, -1}: api.ErrArg, {-3, -5}: api.ErrArg,
		{0, 257}: api.ErrArg, {257, 0}: api.ErrArg, {-1, 300}: api.ErrArg, {300, -1}: api.ErrArg,
		{math.MinInt, math.MinInt}: api.ErrArg, {math.MinInt, 1}: api.ErrArg, {1, math.MinInt}: api.ErrArg,
		{math.MinInt, math.MaxInt}: api.ErrArg, {math.MaxInt, math.MinInt}: api.ErrArg,
		{math.MaxInt, 0}: api.ErrArg, {0, math.MaxInt}: api.ErrArg,
		{257, 1}: api.ErrSize, {1, 257}: api.ErrSize, {257, 257}: api.ErrSize, {300, 2}: api.ErrSize,
		{256, 65}: api.ErrSize, {65, 256}: api.ErrSize, {253, 65}: api.ErrSize, {65, 253}: api.ErrSize,
		{128, 129}: api.ErrSize, {129, 128}: api.ErrSize, {256, 256}: api.ErrSize, {1 << 14, 1}: api.ErrSize, {1, 1 << 14}: api.ErrSize,
		// Sides whose product wraps round to 0, to 1, to a few.
		{1 << 32, 1 << 32}: api.ErrSize, {1 << 62, 1 << 62}: api.ErrSize, {1 << 62, 4}: api.ErrSize, {4, 1 << 62}: api.ErrSize,
		{1<<62 + 1, 4}: api.ErrSize, {math.MaxInt, math.MaxInt}: api.ErrSize, {math.MaxInt, 1}: api.ErrSize, {1, math.MaxInt}: api.ErrSize,
	}
}

// wrong are pictures that may not be.
func wrong() map[string]api.Raster {
	all := noise(5, 64, 1<<16)
	out := map[string]api.Raster{
		"the zero one":                {},
		"samples without sides":       {Pix: all[:24]},
		"no samples":                  {W: 3, H: 2},
		"no samples, an empty list":   {W: 3, H: 2, Pix: []uint16{}},
		"a sample too few":            {W: 3, H: 2, Pix: all[:23]},
		"a sample too many":           {W: 3, H: 2, Pix: all[:25]},
		"a pixel too few":             {W: 3, H: 2, Pix: all[:20]},
		"a pixel too many":            {W: 3, H: 2, Pix: all[:28]},
		"one sample a pixel":          {W: 3, H: 2, Pix: all[:6]},
		"three samples a pixel":       {W: 3, H: 2, Pix: all[:18]},
		"one pixel, no samples":       {W: 1, H: 1},
		"one pixel, a sample too few": {W: 1, H: 1, Pix: all[:3]},
		"no width":                    {W: 0, H: 2, Pix: all[:24]},
		"no height":                   {W: 3, H: 0, Pix: all[:24]},
		"both below 0":                {W: -3, H: -2, Pix: all[:24]},
		"too wide":                    {W: 257, H: 1, Pix: make([]uint16, 4*257)},
		"too high":                    {W: 1, H: 257, Pix: make([]uint16, 4*257)},
		"too many pixels":             {W: 256, H: 65, Pix: make([]uint16, 4*256*65)},
	}
	return out
}

// wantPicture asks for sides and samples.
func wantPicture(t *testing.T, what any, got, want api.Raster) {
	t.Helper()
	if got.W != want.W || got.H != want.H || !slices.Equal(got.Pix, want.Pix) {
		t.Errorf("%v: %d by %d, %d samples; want %d by %d, %d samples (or those unlike)", what, got.W, got.H, len(got.Pix), want.W, want.H, len(want.Pix))
	}
}

// wantUntouched hands a picture with samples behind it to f, and asks that nothing of it is changed.
func wantUntouched(t *testing.T, what any, r api.Raster, f func(api.Raster)) {
	t.Helper()
	whole := slices.Concat(r.Pix, []uint16{1, 2, 3, 4, 5, 6, 7, 8})
	before := slices.Clone(whole)
	f(api.Raster{W: r.W, H: r.H, Pix: whole[:len(r.Pix)]})
	if !slices.Equal(whole, before) {
		t.Errorf("%v: the samples handed in were changed", what)
	}
}

// scribble writes over a list, its spare room too.
func scribble(b []uint16) {
	b = b[:cap(b)]
	for i := range b {
		b[i] ^= 0x5a5a
	}
}

// wantColours asks Colours with room enough, with just enough, and with one less.
func wantColours(t *testing.T, what any, r api.Raster, want int) {
	t.Helper()
	for _, most := range []int{want, want + 1, want + 1000, math.MaxInt} {
		if n, ok := raster.Colours(r, most); n != want || !ok {
			t.Errorf("%v: of at most %d: %d %v, want %d true", what, most, n, ok, want)
		}
	}
	for _, most := range []int{want - 1, 0, -1, -want, math.MinInt} {
		wantNoColours(t, what, r, most)
	}
}

func wantNoColours(t *testing.T, what any, r api.Raster, most int) {
	t.Helper()
	if n, ok := raster.Colours(r, most); n != 0 || ok {
		t.Errorf("%v: of at most %d: %d %v, want 0 false", what, most, n, ok)
	}
}
