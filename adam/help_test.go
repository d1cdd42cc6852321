package adam_test

import (
	"math"
	"slices"
	"testing"

	"engraver/adam"
)

// sides are those of a picture that may be, or may not.
type sides struct{ w, h int }

// pattern tells of each pixel of eight by eight which pass it is in, as PNG's own specification draws it.
var pattern = [8]string{
	"16462646",
	"77777777",
	"56565656",
	"77777777",
	"36463646",
	"77777777",
	"56565656",
	"77777777",
}

// grids are the beginnings and steps of the seven passes as the chapter lists them.
var grids = [7][4]int{{0, 0, 8, 8}, {4, 0, 8, 8}, {0, 4, 4, 8}, {2, 0, 4, 4}, {0, 2, 2, 4}, {1, 0, 2, 2}, {0, 1, 1, 2}}

// slowPasses are those of a picture that may be, its pixels across and down counted one by one.
func slowPasses(s sides) []adam.Pass {
	var out []adam.Pass
	for _, g := range grids {
		p := adam.Pass{X: g[0], Y: g[1], DX: g[2], DY: g[3]}
		for x := p.X; x < s.w; x += p.DX {
			p.W++
		}
		for y := p.Y; y < s.h; y += p.DY {
			p.H++
		}
		if p.W > 0 && p.H > 0 {
			out = append(out, p)
		}
	}
	return out
}

// mayBe are all small sides and, of the greater ones, multiples of 8 with their neighbours and the limits.
func mayBe() []sides {
	var out []sides
	for w := 1; w <= 40; w++ {
		for h := 1; h <= 40; h++ {
			out = append(out, sides{w, h})
		}
	}
	for _, n := range []int{47, 48, 49, 63, 64} {
		for _, m := range []int{1, 2, 8, 63, 64, 127, 128, 129, 247, 248, 249, 255, 256} {
			out = append(out, sides{n, m}, sides{m, n})
		}
	}
	return append(out, sides{128, 128}, sides{127, 129}, sides{129, 127}, sides{252, 65}, sides{65, 252}, sides{256, 1}, sides{1, 256})
}

// mayNot are sides of no picture.
func mayNot() []sides {
	least, most := math.MinInt, math.MaxInt
	out := []sides{{128, 129}, {129, 128}, {253, 65}, {65, 253}, {256, 65}, {65, 256}, {256, 256}, {257, 257},
		{1 << 32, 1 << 32}, {1 << 33, 1 << 31}, {1<<32 + 1, 1<<32 + 1}, {1 << 62, 4}, {4, 1 << 62}, {1<<62 + 1, 4}, {most, most}, {most, 2}, {2, most}, {least, least}, {least, most}, {most, least}}
	for _, good := range []int{1, 2, 8, 64, 256} {
		for _, bad := range []int{0, -1, -8, least, 257, 264, 1 << 14, 1 << 32, 1<<32 + 8, most} {
			out = append(out, sides{good, bad}, sides{bad, good})
		}
	}
	return out
}

// wantPasses holds passes against those that are asked for.
func wantPasses(t *testing.T, what string, s sides, got, want []adam.Pass) {
	t.Helper()
	if !slices.Equal(got, want) {
		t.Errorf("%s of %d by %d: %v, want %v", what, s.w, s.h, got, want)
	}
}

// wantBytes asks how many bytes these passes are.
func wantBytes(t *testing.T, l []adam.Pass, bits, want int) {
	t.Helper()
	if got := adam.Bytes(l, bits); got != want {
		t.Errorf("Bytes of %v at %d bits: %d, want %d", l, bits, got, want)
	}
}
