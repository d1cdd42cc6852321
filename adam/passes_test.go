package adam_test

import (
	"testing"

	"engraver/adam"
)

// P13.1: the chapter's example, and some more written out.
func TestPassesOfAFew(t *testing.T) {
	for s, want := range map[sides][]adam.Pass{
		{1, 1}:    {{0, 0, 8, 8, 1, 1}},
		{5, 1}:    {{0, 0, 8, 8, 1, 1}, {4, 0, 8, 8, 1, 1}, {2, 0, 4, 4, 1, 1}, {1, 0, 2, 2, 2, 1}},
		{1, 5}:    {{0, 0, 8, 8, 1, 1}, {0, 4, 4, 8, 1, 1}, {0, 2, 2, 4, 1, 1}, {0, 1, 1, 2, 1, 2}},
		{4, 4}:    {{0, 0, 8, 8, 1, 1}, {2, 0, 4, 4, 1, 1}, {0, 2, 2, 4, 2, 1}, {1, 0, 2, 2, 2, 2}, {0, 1, 1, 2, 4, 2}},
		{8, 8}:    {{0, 0, 8, 8, 1, 1}, {4, 0, 8, 8, 1, 1}, {0, 4, 4, 8, 2, 1}, {2, 0, 4, 4, 2, 2}, {0, 2, 2, 4, 4, 2}, {1, 0, 2, 2, 4, 4}, {0, 1, 1, 2, 8, 4}},
		{7, 9}:    {{0, 0, 8, 8, 1, 2}, {4, 0, 8, 8, 1, 2}, {0, 4, 4, 8, 2, 1}, {2, 0, 4, 4, 2, 3}, {0, 2, 2, 4, 4, 2}, {1, 0, 2, 2, 3, 5}, {0, 1, 1, 2, 7, 4}},
		{256, 64}: {{0, 0, 8, 8, 32, 8}, {4, 0, 8, 8, 32, 8}, {0, 4, 4, 8, 64, 8}, {2, 0, 4, 4, 64, 16}, {0, 2, 2, 4, 128, 16}, {1, 0, 2, 2, 128, 32}, {0, 1, 1, 2, 256, 32}},
	} {
		wantPasses(t, "Passes", s, adam.Passes(s.w, s.h), want)
	}
}

// P13.1: beginnings, steps, order, and how many pixels across and down.
func TestPassesCounted(t *testing.T) {
	for _, s := range mayBe() {
		wantPasses(t, "Passes", s, adam.Passes(s.w, s.h), slowPasses(s))
	}
}

// P13.1: each pass is left out just where the picture ends ahead of its beginning.
func TestPassesLeftOut(t *testing.T) {
	for w := 1; w <= 8; w++ {
		for h := 1; h <= 8; h++ {
			has := map[[4]int]int{}
			for _, p := range adam.Passes(w, h) {
				has[[4]int{p.X, p.Y, p.DX, p.DY}]++
			}
			for i, g := range grids {
				want := 0
				if g[0] < w && g[1] < h {
					want = 1
				}
				if has[g] != want {
					t.Errorf("Passes of %d by %d has pass %d %d times, want %d", w, h, i+1, has[g], want)
				}
			}
		}
	}
}

// P13.1: one pass of all, with steps 1.
func TestWhole(t *testing.T) {
	for _, s := range mayBe() {
		wantPasses(t, "Whole", s, adam.Whole(s.w, s.h), []adam.Pass{{X: 0, Y: 0, DX: 1, DY: 1, W: s.w, H: s.h}})
	}
}

// P13.1: there are none, where there is no picture of such sides.
func TestNoPasses(t *testing.T) {
	for _, s := range mayNot() {
		wantPasses(t, "Passes", s, adam.Passes(s.w, s.h), nil)
		wantPasses(t, "Whole", s, adam.Whole(s.w, s.h), nil)
	}
}

// places counts how often each pixel is in a pass; false, if one is beyond the picture.
func places(s sides, l []adam.Pass) ([]int, bool) {
	seen := make([]int, s.w*s.h)
	for _, p := range l {
		for j := range p.H {
			for i := range p.W {
				x, y := p.X+i*p.DX, p.Y+j*p.DY
				if x < 0 || x >= s.w || y < 0 || y >= s.h {
					return nil, false
				}
				seen[y*s.w+x]++
			}
		}
	}
	return seen, true
}

// P13.3: each pixel is in just one pass, and none is beyond the picture.
func TestEachPixelOnce(t *testing.T) {
	for _, s := range mayBe() {
		for what, l := range map[string][]adam.Pass{"Passes": adam.Passes(s.w, s.h), "Whole": adam.Whole(s.w, s.h)} {
			seen, ok := places(s, l)
			if !ok {
				t.Errorf("%s of %d by %d: a pixel is beyond the picture", what, s.w, s.h)
			}
			for i, n := range seen {
				if n != 1 {
					t.Fatalf("%s of %d by %d: pixel %d %d is in %d passes", what, s.w, s.h, i%s.w, i/s.w, n)
				}
			}
		}
	}
}

// P13.1: which pass a pixel is in is what PNG's own drawing says.
func TestPassesAsDrawn(t *testing.T) {
	for n, p := range adam.Passes(64, 32) {
		for j := range p.H {
			for i := range p.W {
				x, y := p.X+i*p.DX, p.Y+j*p.DY
				if drawn := pattern[y%8][x%8]; int(drawn-'1') != n {
					t.Fatalf("pixel %d %d is in pass %d, drawn in %c", x, y, n+1, drawn)
				}
			}
		}
	}
}

// R4, R5: each answer is memory of its own, spare room too; the next one does not change with it.
func TestPassesAnew(t *testing.T) {
	for _, s := range mayBe() {
		for what, ask := range map[string]func(w, h int) []adam.Pass{"Passes": adam.Passes, "Whole": adam.Whole} {
			first, want := ask(s.w, s.h), ask(s.w, s.h)
			second := ask(s.w, s.h)
			for i := range first[:cap(first)] {
				first[:cap(first)][i] = adam.Pass{X: -1, Y: -2, DX: -3, DY: -4, W: -5, H: -6}
			}
			wantPasses(t, what, s, second, want)
			wantPasses(t, what, s, ask(s.w, s.h), want)
		}
	}
}
