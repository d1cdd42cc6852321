package pngread_test

import (
	"bytes"
	"fmt"
	"slices"
	"testing"

	"engraver/api"
	"engraver/pngread"
)

// alike tells whether two pictures have the same sides and samples; nil and none are one.
func alike(a, b api.Raster) bool {
	return a.W == b.W && a.H == b.H && slices.Equal(a.Pix, b.Pix)
}

// decodeTwice asks the same thing twice, and holds the answers against each other.
func decodeTwice(t *testing.T, b []byte) (api.Raster, api.Errno) {
	t.Helper()
	r, e := pngread.Decode(b)
	again, e2 := pngread.Decode(b)
	if e != e2 || !alike(r, again) {
		t.Errorf("% x: %v %v, then %v %v", b, r, e, again, e2)
	}
	return r, e
}

// R4: the bytes handed in are not changed, their spare room neither.
func TestDecodeChangesNothing(t *testing.T) {
	files := [][]byte{nil, {1, 2, 3}}
	for i, of := range pairs {
		p := anyOf(i, of, 5, 3, i%2 == 0)
		good := p.packed(p.data(turns(i)))
		files = append(files, good, good[:len(good)-3], p.packed([]byte{9, 9}), p.packed(bytes.Repeat([]byte{5}, len(p.data(unfiltered)))))
	}
	for _, b := range files {
		short, whole := spare(b, 0xaa)
		before := slices.Clone(whole)
		pngread.Decode(short)
		if !bytes.Equal(whole, before) {
			t.Errorf("Decode of % x made it % x", before, whole)
		}
	}
}

// R4, R5: what is answered is new memory, each time, and hangs on no bytes any more.
func TestDecodeKeepsNothing(t *testing.T) {
	for i, of := range pairs {
		for _, laced := range []bool{false, true} {
			p := anyOf(i, of, 7, 6, laced)
			b := p.packed(p.data(turns(i)))
			before := slices.Clone(b)
			first, _ := decodeTwice(t, b)
			second, _ := pngread.Decode(b)
			scribble(b, 0xee)
			scribble(first.Pix, 0x1234)
			if !alike(second, p.raster()) {
				t.Errorf("%v: what was answered changed with the bytes or with the first answer", of)
			}
			wantPicture(t, fmt.Sprint(of, " once more"), before, p.raster())
		}
	}
}

// R5: files asked between one another answer as they do alone.
func TestDecodeHangsOnItsBytesAlone(t *testing.T) {
	var all []picture
	for i, of := range pairs {
		all = append(all, anyOf(i, of, 3+i%4, 2+i%3, i%3 == 0))
	}
	for round := range 3 {
		for i := range all {
			p := all[(i*7+round)%len(all)]
			wantPicture(t, fmt.Sprint("round ", round, p.pair), p.png(), p.raster())
			wantNone(t, "between", p.packed(nil), api.ErrShort)
		}
	}
}
