package filter_test

import (
	"bytes"
	"testing"

	"engraver/filter"
)

// P12.1: each kind, with the row above empty, of noughts and any other, reckoned by hand.
func TestDoOfEachKind(t *testing.T) {
	row, above, none := []byte{10, 20, 40, 5, 200, 0}, []byte{1, 30, 41, 250, 3, 9}, make([]byte, 6)
	for _, c := range []struct {
		kind, back int
		above      []byte
		want       []byte
	}{
		{0, 1, nil, row}, {0, 1, none, row}, {0, 1, above, row}, {0, 8, above, row},
		{1, 1, nil, []byte{10, 10, 20, 221, 195, 56}}, {1, 1, none, []byte{10, 10, 20, 221, 195, 56}}, {1, 1, above, []byte{10, 10, 20, 221, 195, 56}},
		{1, 2, above, []byte{10, 20, 30, 241, 160, 251}}, {1, 5, nil, []byte{10, 20, 40, 5, 200, 246}}, {1, 6, nil, row}, {1, 7, above, row},
		{2, 1, nil, row}, {2, 1, none, row}, {2, 1, above, []byte{9, 246, 255, 11, 197, 247}}, {2, 8, above, []byte{9, 246, 255, 11, 197, 247}},
		{3, 1, nil, []byte{10, 15, 30, 241, 198, 156}}, {3, 1, none, []byte{10, 15, 30, 241, 198, 156}},
		{3, 1, above, []byte{10, 0, 10, 116, 196, 152}}, {3, 2, nil, []byte{10, 20, 35, 251, 180, 254}}, {3, 8, above, []byte{10, 5, 20, 136, 199, 252}},
		{4, 1, nil, []byte{10, 10, 20, 221, 195, 56}}, {4, 1, none, []byte{10, 10, 20, 221, 195, 56}},
		{4, 1, above, []byte{9, 246, 10, 11, 197, 56}}, {4, 3, above, []byte{9, 246, 255, 11, 197, 247}}, {4, 8, above, []byte{9, 246, 255, 11, 197, 247}},
	} {
		wantDo(t, asked{c.kind, c.back, row, c.above}, c.want)
		wantUndo(t, asked{c.kind, c.back, c.want, c.above}, row)
	}
}

// P12.1: what a byte has to its left begins behind back bytes, for each back.
func TestDoLooksJustSoFarBack(t *testing.T) {
	row := []byte{1, 3, 9, 27, 81, 243, 217, 139, 161, 227}
	for back := 1; back <= 8; back++ {
		want := bytes.Clone(row)
		for i := back; i < len(row); i++ {
			want[i] -= row[i-back]
		}
		wantDo(t, asked{1, back, row, nil}, want)
		wantUndo(t, asked{1, back, want, nil}, row)
	}
}

// P12.1: the byte above left is none where there is no left one, though above has bytes.
func TestAboveLeftIsNoughtAtTheBeginning(t *testing.T) {
	above := []byte{200, 100, 50}
	wantDo(t, asked{4, 1, []byte{200, 200, 200}, above}, []byte{0, 100, 0}) // the sums are 200, 100 and 150
	wantDo(t, asked{4, 2, []byte{200, 100, 200}, above}, []byte{0, 0, 150}) // 200, 100 and 50
	wantDo(t, asked{4, 3, []byte{200, 100, 50}, above}, []byte{0, 0, 0})
}

// P12.1: modulo 256, to either side.
func TestBytesGoRound(t *testing.T) {
	for _, c := range []struct{ byteOf, left, up, of1, of2, of3 byte }{
		{0, 1, 1, 255, 255, 255},
		{0, 255, 255, 1, 1, 1},
		{255, 0, 0, 255, 255, 255},
		{5, 250, 6, 11, 255, 133},
		{127, 128, 129, 255, 254, 255},
	} {
		row, above := []byte{c.left, c.byteOf}, []byte{0, c.up}
		for kind, want := range []byte{c.byteOf, c.of1, c.of2, c.of3} {
			made := []byte{c.left, want}
			wantDo(t, asked{kind, 1, row, above}, made)
			wantUndo(t, asked{kind, 1, made, above}, row)
		}
	}
}

// P12.1: the half goes downwards, and the sum of both does not go round.
func TestTheHalfOfBoth(t *testing.T) {
	for _, c := range []struct{ left, up, half byte }{
		{0, 0, 0}, {1, 0, 0}, {0, 1, 0}, {1, 1, 1}, {2, 1, 1}, {3, 4, 3},
		{255, 0, 127}, {0, 255, 127}, {254, 1, 127}, {255, 1, 128}, {128, 128, 128}, {200, 57, 128}, {255, 254, 254}, {255, 255, 255},
	} {
		q := asked{3, 1, []byte{c.left, c.half}, []byte{0, c.up}}
		wantDo(t, q, []byte{c.left, 0})
		q.row = []byte{c.left, 0}
		wantUndo(t, q, []byte{c.left, c.half})
	}
}

// P12.1: Do as a model of the chapter's words has it, and Undo the other way; all kinds, all backs, rows shorter than back and longer.
func TestDoAndUndoOfManyRows(t *testing.T) {
	for _, q := range manyRows() {
		made := slow(q)
		wantDo(t, q, made)
		wantUndo(t, asked{q.kind, q.back, made, q.above}, q.row)
	}
}

// P12.1: any bytes are a row that Do made of another: Do makes them again of what Undo answers.
func TestDoOfWhatUndoMade(t *testing.T) {
	for _, q := range manyRows() {
		row, ok := filter.Undo(q.kind, q.row, q.above, q.back)
		if !ok || len(row) != len(q.row) {
			t.Errorf("Undo of %v: %v, %v; want %d bytes, true", q, row, ok, len(q.row))
		}
		wantDo(t, asked{q.kind, q.back, row, q.above}, q.row)
	}
}

// P12.1: an empty row is a row, above empty, be it nil or not.
func TestEmptyRows(t *testing.T) {
	for kind := range 5 {
		for _, row := range [][]byte{nil, {}} {
			for _, above := range [][]byte{nil, {}} {
				wantDo(t, asked{kind, 8, row, above}, nil)
				wantUndo(t, asked{kind, 1, row, above}, nil)
			}
		}
	}
}

// P12.1: an empty row above is one of noughts, be it nil or not.
func TestEmptyAboveIsNoughts(t *testing.T) {
	row := noise(5, 20)
	for kind := range 5 {
		made, _ := filter.Do(kind, row, make([]byte, 20), 3)
		for _, above := range [][]byte{nil, {}} {
			wantDo(t, asked{kind, 3, row, above}, made)
			wantUndo(t, asked{kind, 3, made, above}, row)
		}
	}
}

// P12.1, R1, R2: kinds, backs and rows above that may not be, and nothing beside the false.
func TestFalse(t *testing.T) {
	for _, q := range wrongOnes() {
		if got, ok := filter.Do(q.kind, q.row, q.above, q.back); ok || len(got) != 0 {
			t.Errorf("Do of %v: %v, %v; want nothing, false", q, got, ok)
		}
		if got, ok := filter.Undo(q.kind, q.row, q.above, q.back); ok || len(got) != 0 {
			t.Errorf("Undo of %v: %v, %v; want nothing, false", q, got, ok)
		}
	}
}

// R4: neither row nor above is changed, spare room too, by calls that are true or false.
func TestRowsStayAsTheyAre(t *testing.T) {
	for _, q := range append(manyRows(), wrongOnes()...) {
		row, wholeRow := spare(q.row)
		above, wholeAbove := spare(q.above)
		beforeRow, beforeAbove := bytes.Clone(wholeRow), bytes.Clone(wholeAbove)
		filter.Do(q.kind, row, above, q.back)
		filter.Undo(q.kind, row, above, q.back)
		filter.Best(row, above, q.back)
		if !bytes.Equal(wholeRow, beforeRow) || !bytes.Equal(wholeAbove, beforeAbove) {
			t.Errorf("%v: changed", q)
		}
	}
}

// R4, R5: what is answered is new memory, and the same again, whatever was written into an answer before.
func TestAnswersAreNewMemory(t *testing.T) {
	for _, call := range []func(int, []byte, []byte, int) ([]byte, bool){filter.Do, filter.Undo} {
		for _, q := range manyRows() {
			row, wholeRow := spare(q.row)
			above, wholeAbove := spare(q.above)
			beforeRow, beforeAbove := bytes.Clone(wholeRow), bytes.Clone(wholeAbove)
			first, _ := call(q.kind, row, above, q.back)
			want := bytes.Clone(first)
			second, _ := call(q.kind, row, above, q.back)
			scribble(first)
			if !bytes.Equal(second, want) {
				t.Errorf("%v: two answers share memory, or are unlike", q)
			}
			if !bytes.Equal(wholeRow, beforeRow) || !bytes.Equal(wholeAbove, beforeAbove) {
				t.Errorf("%v: the answer shares memory with what was handed in", q)
			}
			scribble(wholeRow)
			scribble(wholeAbove)
			if !bytes.Equal(second, want) {
				t.Errorf("%v: the answer hangs on what was handed in", q)
			}
		}
	}
}

// P12.1: row and above may be the same list.
func TestRowIsItsOwnAbove(t *testing.T) {
	row := noise(3, 30)
	for kind := range 5 {
		wantDo(t, asked{kind, 3, row, row}, slow(asked{kind, 3, row, bytes.Clone(row)}))
		back, ok := filter.Undo(kind, row, row, 3)
		if !ok {
			t.Errorf("kind %d: false", kind)
		}
		wantDo(t, asked{kind, 3, back, row}, row)
	}
}
