package pngread_test

import (
	"bytes"
	"math"
	"slices"
	"testing"

	"engraver/api"
	"engraver/pngread"
)

// P14.1: 13 bytes are read, no other number of them.
func TestReadOfOtherLengths(t *testing.T) {
	good := head(3, 2, 8, 6, 0, 0, 1)
	wantHead(t, good, pngread.Head{W: 3, H: 2, Depth: 8, Colour: 6, Laced: true})
	wantNoHead(t, nil, api.ErrForm)
	for n := range 40 {
		if n != 13 {
			wantNoHead(t, append(slices.Clone(good), make([]byte, 40)...)[:n], api.ErrForm)
		}
	}
}

// P14.1: of all bytes that may stand for a Depth and a Colour just fifteen pairs may be.
func TestReadDepthAndColour(t *testing.T) {
	for depth := range 256 {
		for colour := range 256 {
			b := head(3, 2, byte(depth), byte(colour), 0, 0, 0)
			if slices.Contains(pairs, pair{depth, colour}) {
				wantHead(t, b, pngread.Head{W: 3, H: 2, Depth: depth, Colour: colour})
			} else {
				wantNoHead(t, b, api.ErrForm)
			}
		}
	}
}

// P14.1: compression and filter are 0, the interlace 0 or 1.
func TestReadMethods(t *testing.T) {
	for _, of := range pairs {
		want := pngread.Head{W: 5, H: 4, Depth: of.depth, Colour: of.colour}
		wantHead(t, head(5, 4, byte(of.depth), byte(of.colour), 0, 0, 0), want)
		want.Laced = true
		wantHead(t, head(5, 4, byte(of.depth), byte(of.colour), 0, 0, 1), want)
	}
	for n := 1; n < 256; n++ {
		wantNoHead(t, head(5, 4, 8, 2, byte(n), 0, 0), api.ErrForm)
		wantNoHead(t, head(5, 4, 8, 2, 0, byte(n), 0), api.ErrForm)
		wantNoHead(t, head(5, 4, 8, 2, byte(n), byte(n), 1), api.ErrForm)
		if n > 1 {
			wantNoHead(t, head(5, 4, 8, 2, 0, 0, byte(n)), api.ErrForm)
		}
	}
}

// P14.1: sides up to raster.Size's limits; noughts are ErrForm, also beside a side that is too great.
func TestReadSides(t *testing.T) {
	for _, s := range [][2]uint32{{1, 1}, {1, 256}, {256, 1}, {256, 64}, {64, 256}, {128, 128}, {252, 65}, {65, 252}, {255, 64}, {9, 200}} {
		wantHead(t, head(s[0], s[1], 1, 0, 0, 0, 0), pngread.Head{W: int(s[0]), H: int(s[1]), Depth: 1})
	}
	for _, s := range [][2]uint32{{256, 65}, {65, 256}, {128, 129}, {129, 128}, {253, 65}, {256, 256}} {
		wantNoHead(t, head(s[0], s[1], 8, 6, 0, 0, 1), api.ErrSize)
	}
	great := []uint32{257, 258, 512, 1 << 15, 1<<16 - 1, 1 << 16, 1<<16 + 1, 1 << 24, 1<<24 + 1, 1<<31 - 1, 1 << 31, 1<<31 + 1, math.MaxUint32 - 1, math.MaxUint32}
	for _, n := range great {
		for _, m := range append([]uint32{1, 2, 64, 255, 256}, great...) {
			wantNoHead(t, head(n, m, 16, 4, 0, 0, 0), api.ErrSize)
			wantNoHead(t, head(m, n, 2, 3, 0, 0, 1), api.ErrSize)
		}
		wantNoHead(t, head(n, 0, 8, 0, 0, 0, 0), api.ErrForm)
		wantNoHead(t, head(0, n, 8, 0, 0, 0, 0), api.ErrForm)
	}
	for _, n := range []uint32{1, 2, 256} {
		wantNoHead(t, head(n, 0, 8, 0, 0, 0, 0), api.ErrForm)
		wantNoHead(t, head(0, n, 8, 0, 0, 0, 0), api.ErrForm)
	}
	wantNoHead(t, head(0, 0, 8, 0, 0, 0, 0), api.ErrForm)
}

// P14.1: a side's four bytes come highest first, each of them counts.
func TestReadSidesByteByByte(t *testing.T) {
	wantHead(t, []byte{0, 0, 0, 7, 0, 0, 1, 0, 8, 0, 0, 0, 0}, pngread.Head{W: 7, H: 256, Depth: 8})
	wantHead(t, []byte{0, 0, 1, 0, 0, 0, 0, 7, 8, 0, 0, 0, 0}, pngread.Head{W: 256, H: 7, Depth: 8})
	for i := range 8 {
		for n := 1; n < 256; n++ {
			b := head(1, 1, 8, 0, 0, 0, 0)
			b[i] = byte(n)
			if i%4 < 3 { // 256 times n at least
				wantNoHead(t, b, api.ErrSize)
				continue
			}
			s := [2]int{1, 1}
			s[i/4] = n
			wantHead(t, b, pngread.Head{W: s[0], H: s[1], Depth: 8})
		}
	}
}

// P14.1, R6: what is ErrForm comes ahead of ErrSize.
func TestReadFormAheadOfSize(t *testing.T) {
	for _, s := range [][2]uint32{{257, 1}, {1, 257}, {256, 65}, {1 << 31, 1 << 31}} {
		w, h := s[0], s[1]
		wantNoHead(t, head(w, h, 8, 0, 0, 0, 0), api.ErrSize)
		wantNoHead(t, head(w, h, 8, 0, 0, 0, 0)[:12], api.ErrForm)
		wantNoHead(t, append(head(w, h, 8, 0, 0, 0, 0), 0), api.ErrForm)
		wantNoHead(t, head(w, h, 3, 0, 0, 0, 0), api.ErrForm)
		wantNoHead(t, head(w, h, 16, 3, 0, 0, 0), api.ErrForm)
		wantNoHead(t, head(w, h, 8, 1, 0, 0, 0), api.ErrForm)
		wantNoHead(t, head(w, h, 8, 0, 1, 0, 0), api.ErrForm)
		wantNoHead(t, head(w, h, 8, 0, 0, 1, 0), api.ErrForm)
		wantNoHead(t, head(w, h, 8, 0, 0, 0, 2), api.ErrForm)
	}
}

// P14.1: samples of a pixel of each Colour, none of any other number.
func TestParts(t *testing.T) {
	for c := -300; c < 300; c++ {
		if got := pngread.Parts(c); got != parts[c] {
			t.Errorf("Parts(%d): %d, want %d", c, got, parts[c])
		}
	}
	for _, c := range []int{math.MinInt, math.MinInt + 2, -1 << 32, 1 << 16, 1<<32 + 2, 1<<32 + 3, 1<<62 + 6, math.MaxInt} {
		if got := pngread.Parts(c); got != 0 {
			t.Errorf("Parts(%d): %d, want 0", c, got)
		}
	}
}

// R4: an IHDR's bytes are not changed.
func TestReadChangesNothing(t *testing.T) {
	for _, b := range [][]byte{head(3, 2, 8, 6, 0, 0, 1), head(300, 2, 8, 6, 0, 0, 1), head(3, 2, 9, 6, 0, 0, 1), nil} {
		short, whole := spare(b, 0xaa)
		before := bytes.Clone(whole)
		pngread.Read(short)
		if !bytes.Equal(whole, before) {
			t.Errorf("Read of % x made it % x", before, whole)
		}
	}
}
