package filter_test

import (
	"testing"

	"engraver/filter"
)

// P12.1: the chapter's example, and each of the three as the nearest one.
func TestPaethAnswersTheNearestOne(t *testing.T) {
	for _, p := range []struct{ a, b, c, want byte }{
		{1, 5, 3, 3},
		{10, 20, 10, 20}, {20, 10, 10, 20}, // one on the sum itself
		{10, 20, 15, 15}, {20, 10, 15, 15},
		{50, 60, 20, 60}, {60, 50, 20, 60}, // the sum above all three
		{50, 60, 90, 50}, {60, 50, 90, 50}, // the sum below all three
		{0, 0, 0, 0}, {255, 255, 255, 255},
	} {
		if got := filter.Paeth(p.a, p.b, p.c); got != p.want {
			t.Errorf("Paeth(%d, %d, %d): %d, want %d", p.a, p.b, p.c, got, p.want)
		}
	}
}

// P12.1: "a + b - c" is not reckoned modulo 256.
func TestPaethDoesNotGoRound(t *testing.T) {
	for _, p := range []struct{ a, b, c, want byte }{
		{255, 200, 10, 255}, // 445, which would go round to 189
		{200, 255, 10, 255},
		{0, 50, 255, 0}, // -205, which would go round to 51
		{50, 0, 255, 0},
		{255, 255, 0, 255},   // 510
		{0, 0, 255, 0},       // -255
		{254, 130, 127, 254}, // 257, which would go round to 1
		{1, 130, 132, 1},     // -1, which would go round to 255
	} {
		if got := filter.Paeth(p.a, p.b, p.c); got != p.want {
			t.Errorf("Paeth(%d, %d, %d): %d, want %d", p.a, p.b, p.c, got, p.want)
		}
	}
}

// P12.1: of alike ones the first. (a and b, unlike ones, are never as near as each other and nearer than c: then the sum is c itself.)
func TestPaethAnswersTheFirstOfAlikeOnes(t *testing.T) {
	for _, p := range []struct {
		what          string
		a, b, c, want byte
	}{
		{"a and c", 7, 1, 3, 7},
		{"a and c", 1, 7, 5, 1},
		{"b and c", 1, 7, 3, 7},
		{"b and c", 7, 1, 5, 1},
		{"a and b, c nearer", 1, 5, 3, 3},
		{"a and b, the same byte", 9, 9, 4, 9},
		{"all three", 9, 9, 9, 9},
	} {
		if got := filter.Paeth(p.a, p.b, p.c); got != p.want {
			t.Errorf("%s: Paeth(%d, %d, %d): %d, want %d", p.what, p.a, p.b, p.c, got, p.want)
		}
	}
}

// P12.1: all bytes a, b and c there are.
func TestPaethOfAllBytes(t *testing.T) {
	far := func(x, y int) int { return max(x-y, y-x) }
	for a := range 256 {
		for b := range 256 {
			for c := range 256 {
				sum, want := a+b-c, a
				if far(b, sum) < far(want, sum) {
					want = b
				}
				if far(c, sum) < far(want, sum) {
					want = c
				}
				if got := filter.Paeth(byte(a), byte(b), byte(c)); int(got) != want {
					t.Fatalf("Paeth(%d, %d, %d): %d, want %d", a, b, c, got, want)
				}
			}
		}
	}
}
