package depth_test

import (
	"math"
	"testing"

	"engraver/depth"
)

// P9.1: the chapter's examples.
func TestScaleExamples(t *testing.T) {
	s, ok := depth.Up(1, 1)
	wantSample(t, "Up(1, 1)", s, ok, 65535)
	s, ok = depth.Mask(16, 5)
	wantSample(t, "Mask(16, 5)", s, ok, 132*257)
	if b, ok := depth.Eight(257); b != 1 || !ok {
		t.Error("Eight(257):", b, ok)
	}
}

// P9.1: every number of 1, 2, 4 and 8 bits; the steps are written out.
func TestUp(t *testing.T) {
	for bits, step := range map[int]int{1: 65535, 2: 21845, 4: 4369, 8: 257} {
		for v := range 1 << bits {
			s, ok := depth.Up(v, bits)
			wantSample(t, []any{"Up", v, bits}, s, ok, v*step)
		}
	}
}

// P9.1: 16 bits are a sample already.
func TestUpOfSixteen(t *testing.T) {
	for v := range 1 << 16 {
		s, ok := depth.Up(v, 16)
		wantSample(t, []any{"Up", v, 16}, s, ok, v)
	}
}

// P9.1, R2: numbers below 0, and from just one too great on.
func TestUpOfWrongNumbers(t *testing.T) {
	for _, bits := range []int{1, 2, 4, 8, 16} {
		for _, v := range append(far(), -1, -2, -3, 1<<bits, 1<<bits+1, 1<<(bits+1)-1, 1<<(bits+1)) {
			s, ok := depth.Up(v, bits)
			wantNone(t, []any{"Up", v, bits}, s, ok)
		}
	}
}

// P9.1, R2: bits that are none of these, whatever the number.
func TestUpOfWrongBits(t *testing.T) {
	wrongBits := far()
	for bits := -70; bits <= 140; bits++ {
		switch bits {
		case 1, 2, 4, 8, 16:
		default:
			wrongBits = append(wrongBits, bits)
		}
	}
	for _, bits := range wrongBits {
		for _, v := range append(far(), 0, 1, 2, 255, 65535, -1) {
			s, ok := depth.Up(v, bits)
			wantNone(t, []any{"Up", v, bits}, s, ok)
		}
	}
}

// nearest answers the byte that no other is nearer to v parts of most, by going through them all.
func nearest(t *testing.T, v, most int) int {
	t.Helper()
	best, least, alike := 0, math.MaxInt, 0
	for b := range 256 {
		gap := b*most - 255*v
		if gap < 0 {
			gap = -gap
		}
		switch {
		case gap < least:
			best, least, alike = b, gap, 1
		case gap == least:
			alike++
		}
	}
	if alike != 1 {
		t.Errorf("%d of %d lies half between two bytes", v, most)
	}
	return best
}

// P9.1: every number of 1 to 8 bits, to the nearest.
func TestMask(t *testing.T) {
	for bits := 1; bits <= 8; bits++ {
		for v := range 1 << bits {
			s, ok := depth.Mask(v, bits)
			wantSample(t, []any{"Mask", v, bits}, s, ok, 257*nearest(t, v, 1<<bits-1))
		}
	}
}

// P9.1: some to the nearest, upwards and downwards, written out.
func TestMaskToTheNearest(t *testing.T) {
	for _, c := range []struct{ v, bits, want int }{
		{1, 3, 36}, {2, 3, 73}, {3, 3, 109}, {4, 3, 146}, {5, 3, 182}, {6, 3, 219},
		{1, 5, 8}, {3, 5, 25}, {4, 5, 33}, {30, 5, 247}, {31, 5, 255},
		{1, 6, 4}, {10, 6, 40}, {11, 6, 45}, {62, 6, 251},
		{1, 7, 2}, {63, 7, 126}, {64, 7, 129}, {126, 7, 253},
		{1, 4, 17}, {1, 2, 85}, {1, 1, 255}, {7, 8, 7},
	} {
		s, ok := depth.Mask(c.v, c.bits)
		wantSample(t, c, s, ok, c.want*257)
	}
}

// P9.1: what Mask answers is a byte's sample; where both take the bits it is what Up answers.
func TestMaskBesideUp(t *testing.T) {
	for bits := 1; bits <= 8; bits++ {
		for v := range 1 << bits {
			s, _ := depth.Mask(v, bits)
			if _, ok := depth.Eight(s); !ok {
				t.Error(v, bits, s)
			}
			if up, ok := depth.Up(v, bits); ok && up != s {
				t.Error(v, bits, up, s)
			}
		}
	}
}

// P9.1, R2: numbers below 0, and from just one too great on.
func TestMaskOfWrongNumbers(t *testing.T) {
	for bits := 1; bits <= 8; bits++ {
		for _, v := range append(far(), -1, -2, -3, 1<<bits, 1<<bits+1, 1<<(bits+1)-1, 1<<(bits+1), 1<<16) {
			s, ok := depth.Mask(v, bits)
			wantNone(t, []any{"Mask", v, bits}, s, ok)
		}
	}
}

// P9.1, R2: bits below 1 and above 8, whatever the number.
func TestMaskOfWrongBits(t *testing.T) {
	wrongBits := far()
	for n := range 140 {
		wrongBits = append(wrongBits, -n, 9+n)
	}
	for _, bits := range wrongBits {
		for _, v := range append(far(), 0, 1, 2, 255, 256, 65535, -1) {
			s, ok := depth.Mask(v, bits)
			wantNone(t, []any{"Mask", v, bits}, s, ok)
		}
	}
}

// P9.1, R2: of all samples those that are a byte times 257, and no others.
func TestEight(t *testing.T) {
	byteOf := map[int]int{}
	for b := range 256 {
		byteOf[257*b] = b
	}
	for s := range 1 << 16 {
		want, is := byteOf[s]
		if b, ok := depth.Eight(uint16(s)); int(b) != want || ok != is {
			t.Errorf("Eight(%d): %d %v, want %d %v", s, b, ok, want, is)
		}
	}
}
