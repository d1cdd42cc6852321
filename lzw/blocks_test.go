package lzw_test

import (
	"bytes"
	"fmt"
	"slices"
	"testing"

	"engraver/api"
	"engraver/lzw"
)

// pieces are bytes in pieces of these lengths, the empty one behind, and those bytes together.
func pieces(lengths ...int) (b, together []byte) {
	for i, n := range lengths {
		piece := noise(i+n, n, 256)
		b = slices.Concat(b, []byte{byte(n)}, piece)
		together = append(together, piece...)
	}
	return append(b, 0), together
}

func wantBlocks(t *testing.T, b, want []byte) {
	t.Helper()
	if got := lzw.Blocks(b); !bytes.Equal(got, want) {
		t.Errorf("Blocks of %d bytes: %d bytes, want %d", len(b), len(got), len(want))
	}
}

// wantPieces asks for all that P7.3 says of Unblock, with bytes behind too.
func wantPieces(t *testing.T, what any, b, want []byte) {
	t.Helper()
	for _, behind := range [][]byte{nil, {0}, {9}, {255, 1, 2}, noise(1, 300, 256)} {
		out, n, e := lzw.Unblock(slices.Concat(b, behind))
		if !bytes.Equal(out, want) || n != len(b) || e != api.OK {
			t.Errorf("%v: %d bytes, %d taken, %v; want %d, %d, ok", what, len(out), n, e, len(want), len(b))
		}
	}
}

func wantShort(t *testing.T, what any, b []byte) {
	t.Helper()
	if out, n, e := lzw.Unblock(b); len(out) != 0 || n != 0 || e != api.ErrShort {
		t.Errorf("%v: %d bytes, %d taken, %v; want none, 0, short", what, len(out), n, e)
	}
}

func TestBlocks(t *testing.T) {
	wantBlocks(t, nil, []byte{0})
	wantBlocks(t, []byte{}, []byte{0})
	wantBlocks(t, []byte{0}, []byte{1, 0, 0})
	wantBlocks(t, []byte{5, 6}, []byte{2, 5, 6, 0})
	for _, n := range []int{1, 2, 254, 255, 256, 257, 509, 510, 511, 765, 1000, 70000} {
		b := noise(n, n, 256)
		var want []byte
		for i, c := range b {
			if i%255 == 0 {
				want = append(want, byte(min(n-i, 255)))
			}
			want = append(want, c)
		}
		wantBlocks(t, b, append(want, 0))
	}
}

func TestUnblockOfBlocks(t *testing.T) {
	for n := range 1100 {
		b := noise(n, n, 256)
		wantPieces(t, n, lzw.Blocks(b), b)
	}
}

// TestPiecesOfAnyLengths: also such as are not full ahead of others.
func TestPiecesOfAnyLengths(t *testing.T) {
	for _, lengths := range [][]int{nil, {1}, {255}, {1, 1}, {254, 255, 1}, {255, 255}, {3, 255, 2, 254, 1}, {255, 1, 255}} {
		b, want := pieces(lengths...)
		wantPieces(t, lengths, b, want)
	}
	d := dice(9)
	for i := range 200 {
		lengths := make([]int, d.below(12))
		for k := range lengths {
			lengths[k] = 1 + d.below(255)
		}
		b, want := pieces(lengths...)
		wantPieces(t, i, b, want)
	}
}

func TestPiecesCutAnywhere(t *testing.T) {
	for _, lengths := range [][]int{nil, {1}, {2, 1}, {255}, {254, 3, 255}, {255, 255, 10}} {
		b, _ := pieces(lengths...)
		for n := range len(b) {
			wantShort(t, fmt.Sprint(lengths, " cut to ", n), b[:n])
			wantShort(t, fmt.Sprint(lengths, " cut to ", n, " without spare room"), b[:n:n])
		}
	}
	wantShort(t, "none", []byte{})
}

// TestBlocksAndUnblockChangeNothing: R4, spare room included; their answers are new memory.
func TestBlocksAndUnblockChangeNothing(t *testing.T) {
	for _, n := range []int{0, 1, 254, 255, 256, 600} {
		b := noise(n, n, 256)
		wantUntouched(t, n, b, func(b []byte) { scribble(lzw.Blocks(b)) })
		cut := lzw.Blocks(b)
		want := slices.Clone(cut)
		scribble(lzw.Blocks(b))
		wantBlocks(t, b, want)
		unblock := func(b []byte) {
			out, _, _ := lzw.Unblock(b)
			scribble(out)
		}
		wantUntouched(t, n, cut, unblock)
		wantUntouched(t, n, slices.Concat(cut, []byte{8, 9}), unblock)
		wantUntouched(t, n, cut[:len(cut)-1], unblock)
		wantPieces(t, n, cut, b)
	}
}
