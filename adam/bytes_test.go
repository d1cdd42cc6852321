package adam_test

import (
	"math"
	"slices"
	"testing"

	"engraver/adam"
)

// asked is what Row is asked, or how many bits and pixels.
type asked struct{ w, bits int }

// noBits are numbers of bits that no pixel has.
var noBits = []int{-1, -2, -8, -64, 65, 66, 128, 256, 1 << 32, 1<<32 + 8, math.MinInt, math.MaxInt}

// noSides are numbers of pixels that no row has.
var noSides = []int{-1, -2, -8, -256, 257, 258, 512, 1 << 16, 1 << 32, 1<<32 + 8, 1 << 61, 1 << 62, math.MinInt, math.MaxInt}

// slowRow counts the bits of a row one by one, and a byte ahead of each eighth of them.
func slowRow(w, bits int) int {
	sum := 0
	for n := range w * bits {
		if n%8 == 0 {
			sum++
		}
	}
	return sum
}

// P13.2: a few rows written out: bits that just fill a byte, one more, one less.
func TestRowOfAFew(t *testing.T) {
	for a, want := range map[asked]int{
		{0, 0}: 0, {0, 8}: 0, {0, 64}: 0, {1, 0}: 0, {7, 0}: 0, {256, 0}: 0,
		{1, 1}: 1, {7, 1}: 1, {8, 1}: 1, {9, 1}: 2, {255, 1}: 32, {256, 1}: 32,
		{3, 2}: 1, {4, 2}: 1, {5, 2}: 2, {1, 4}: 1, {2, 4}: 1, {3, 4}: 2,
		{1, 7}: 1, {2, 7}: 2, {8, 7}: 7, {9, 7}: 8, {1, 8}: 1, {2, 8}: 2, {1, 9}: 2, {7, 9}: 8, {8, 9}: 9, {9, 9}: 11,
		{1, 63}: 8, {2, 63}: 16, {8, 63}: 63, {9, 63}: 71, {1, 64}: 8, {255, 64}: 2040, {256, 63}: 2016, {256, 64}: 2048,
	} {
		if got := adam.Row(a.w, a.bits); got != want {
			t.Errorf("Row(%d, %d): %d, want %d", a.w, a.bits, got, want)
		}
	}
}

// P13.2: every row that may be.
func TestRowCounted(t *testing.T) {
	for w := 0; w <= 256; w++ {
		for bits := 0; bits <= 64; bits++ {
			if got, want := adam.Row(w, bits), slowRow(w, bits); got != want {
				t.Fatalf("Row(%d, %d): %d, want %d", w, bits, got, want)
			}
		}
	}
}

// P13.2: 0 of pixels and bits that may not be, whatever the other one is.
func TestNoRow(t *testing.T) {
	for _, bad := range noSides {
		for _, bits := range append([]int{0, 1, 2, 4, 7, 8, 9, 63, 64}, noBits...) {
			if got := adam.Row(bad, bits); got != 0 {
				t.Errorf("Row(%d, %d): %d, want 0", bad, bits, got)
			}
		}
	}
	for _, bad := range noBits {
		for _, w := range []int{0, 1, 8, 255, 256} {
			if got := adam.Row(w, bad); got != 0 {
				t.Errorf("Row(%d, %d): %d, want 0", w, bad, got)
			}
		}
	}
}

// P13.2: a few written out: no passes, rows without pixels, pixels without bits.
func TestBytesOfAFew(t *testing.T) {
	wantBytes(t, nil, 8, 0)
	wantBytes(t, []adam.Pass{}, 64, 0)
	wantBytes(t, adam.Whole(3, 2), 24, 20)
	wantBytes(t, adam.Whole(9, 5), 1, 15)
	wantBytes(t, adam.Passes(1, 1), 8, 2)
	wantBytes(t, adam.Passes(8, 8), 8, 79) // 64 pixels, 15 rows
	wantBytes(t, adam.Passes(8, 8), 1, 30)
	wantBytes(t, adam.Passes(8, 8), 0, 15)
	wantBytes(t, adam.Passes(5, 1), 16, 14)
	wantBytes(t, []adam.Pass{{W: 0, H: 5}}, 8, 0)
	wantBytes(t, []adam.Pass{{W: 5, H: 0}}, 8, 0)
	wantBytes(t, []adam.Pass{{W: 0, H: 0}}, 64, 0)
	wantBytes(t, []adam.Pass{{W: 0, H: 256}, {W: 2, H: 3}, {W: 256, H: 0}}, 8, 9)
	wantBytes(t, []adam.Pass{{W: 0, H: 256}, {W: 2, H: 3}, {W: 256, H: 0}}, 0, 3)
}

// P13.2: of each picture's passes: its rows, and a byte ahead of each.
func TestBytesCounted(t *testing.T) {
	for _, s := range mayBe() {
		for _, bits := range []int{0, 1, 2, 4, 8, 16, 24, 32, 48, 63, 64} {
			want := 0
			for _, p := range slowPasses(s) {
				for range p.H {
					want += 1 + (p.W*bits+7)/8
				}
			}
			wantBytes(t, adam.Passes(s.w, s.h), bits, want)
			wantBytes(t, adam.Whole(s.w, s.h), bits, s.h*(1+(s.w*bits+7)/8))
		}
	}
}

// P13.2: up to seven passes, no more, also where those beyond have no pixels.
func TestBytesOfManyPasses(t *testing.T) {
	for _, p := range []adam.Pass{{W: 2, H: 3}, {W: 256, H: 256}, {W: 0, H: 1}, {W: 1, H: 0}, {}} {
		one := 0
		if p.W > 0 {
			one = p.H * (1 + p.W*3)
		}
		for n := range 12 {
			want := n * one
			if n > 7 {
				want = 0
			}
			wantBytes(t, slices.Repeat([]adam.Pass{p}, n), 24, want)
		}
	}
	wantBytes(t, append(adam.Passes(9, 5), adam.Pass{}), 8, 0)
	wantBytes(t, append([]adam.Pass{{}}, adam.Passes(9, 5)...), 8, 0)
}

// P13.2: the greatest sum is whole.
func TestBytesAtTheLimits(t *testing.T) {
	wantBytes(t, slices.Repeat([]adam.Pass{{W: 256, H: 256}}, 7), 64, 7*256*2049)
	wantBytes(t, slices.Repeat([]adam.Pass{{W: 256, H: 256}}, 7), 63, 7*256*2017)
	wantBytes(t, []adam.Pass{{W: 256, H: 1}, {W: 1, H: 256}}, 64, 2049+256*9)
}

// P13.2: 0 of all, where one pass, the last one too, has a side that may not be, whatever its other one is.
func TestBytesOfSidesThatMayNotBe(t *testing.T) {
	good := adam.Pass{DX: 1, DY: 1, W: 2, H: 3}
	for _, bad := range noSides {
		for _, other := range append([]int{0, 1, 8, 256}, noSides...) {
			for n := range 7 {
				for at := range n + 1 {
					for _, p := range []adam.Pass{{W: bad, H: other}, {W: other, H: bad}} {
						l := slices.Repeat([]adam.Pass{good}, n)
						for _, bits := range []int{0, 8, 64} {
							wantBytes(t, slices.Insert(l, at, p), bits, 0)
						}
					}
				}
			}
		}
	}
}

// P13.2: 0 of bits that no pixel has, whatever the passes.
func TestBytesOfBitsThatMayNotBe(t *testing.T) {
	for _, bits := range noBits {
		for _, l := range [][]adam.Pass{nil, adam.Whole(3, 2), adam.Passes(9, 5), {{W: 0, H: 5}}, {{W: 256, H: 256}}, {{W: -1, H: 1}}} {
			wantBytes(t, l, bits, 0)
		}
	}
}

// P13.2: beginnings and steps do not matter, whatever they are.
func TestBytesLooksAtNoPlace(t *testing.T) {
	some := []int{0, 1, -1, 7, 8, 257, math.MinInt, math.MaxInt}
	for _, n := range some {
		for _, m := range some {
			l := []adam.Pass{{X: n, Y: m, DX: m, DY: n, W: 9, H: 5}, {X: 1, Y: n, DX: n, DY: m, W: 256, H: 1}, {X: m, Y: n, W: 0, H: 4}}
			wantBytes(t, l, 8, 5*10+257)
			wantBytes(t, l, 1, 5*3+33)
		}
	}
}

// R4, R5: the list handed in is neither changed, spare room included, nor kept.
func TestBytesKeepsNothing(t *testing.T) {
	spare := adam.Pass{X: 1, Y: 2, DX: 3, DY: 4, W: 5, H: 6}
	for _, first := range [][]adam.Pass{adam.Passes(9, 5), {{W: 0, H: 5}, {W: 5, H: 0}}, {{W: 2, H: 3}, {W: -1, H: 1}}, slices.Repeat([]adam.Pass{spare}, 8)} {
		for _, bits := range []int{-1, 0, 8, 64, 65} {
			room := append(slices.Clone(first), spare, spare, spare)
			before := slices.Clone(room)
			got := adam.Bytes(room[:len(first)], bits)
			if !slices.Equal(room, before) {
				t.Errorf("Bytes of %v at %d bits made them %v", before, bits, room)
			}
			for i := range room {
				room[i] = adam.Pass{W: 1, H: 1}
			}
			wantBytes(t, first, bits, got)
			wantBytes(t, room[:1], 8, 2)
		}
	}
}
