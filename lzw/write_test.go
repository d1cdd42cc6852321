package lzw_test

import (
	"bytes"
	stdlzw "compress/lzw"
	"fmt"
	"io"
	"math"
	"slices"
	"testing"

	"engraver/api"
	"engraver/lzw"
)

// valuesToWrite are lists of values of a size: none, one, rows, in no order, in order, such as fill a table and more.
func valuesToWrite(size int) [][]byte {
	most := 1 << size
	out := [][]byte{nil, {}, {0}, {1}, {byte(most - 1)}, {1, 2}, {3, 3}}
	for _, n := range []int{3, 4, 5, 6, 7, 30, 1000, 30000} {
		out = append(out, rowOf(n, 0), rowOf(n, byte(most-1)), noise(n, n, most), noise(n, n, 2), counted(n, most), counted(n, 3))
	}
	return append(out, slices.Concat(rowOf(9000, 1), noise(1, 9000, most), counted(9000, most)))
}

// wantWritten asks for all that P7.2 says of Write, and answers how many codes it wrote.
func wantWritten(t *testing.T, what any, got, b []byte, size int) int {
	t.Helper()
	if len(got) > lzw.Most(len(b)) {
		t.Errorf("%v: %d bytes of %d, at most %d", what, len(got), len(b), lzw.Most(len(b)))
	}
	codes, behind := codesOf(got, size)
	if len(codes) < 2 || codes[0] != clearOf(size) || codes[len(codes)-1] != endOf(size) {
		t.Errorf("%v: no Clear first, or no End last: %v of %d codes", what, codes[:min(len(codes), 10)], len(codes))
	}
	if len(behind) > 7 || slices.Contains(behind, 1) {
		t.Errorf("%v: %v stands behind End", what, behind)
	}
	wantAnswer(t, what, read(got, size, len(b)), answer{out: b})
	return len(codes)
}

func wantWrite(t *testing.T, what any, b []byte, size int) int {
	t.Helper()
	got, e := lzw.Write(b, size)
	if e != api.OK {
		t.Errorf("%v: Write of %d bytes: %v", what, len(b), e)
		return 0
	}
	return wantWritten(t, what, got, b, size)
}

func TestWriteOfFewValues(t *testing.T) {
	if got, e := lzw.Write([]byte{1, 2}, 2); e != api.OK || !bytes.Equal(got, []byte{0x8c, 0x0a}) {
		t.Errorf("Write of 1 2 = % x, %v; want 8c 0a", got, e)
	}
	for size := 2; size <= 8; size++ {
		none, _ := lzw.Write(nil, size)
		if want := coded(size, clearOf(size), endOf(size)); !bytes.Equal(none, want) {
			t.Errorf("size %d: Write of none = % x, want % x", size, none, want)
		}
		for value := range 1 << size {
			wantWrite(t, fmt.Sprint("size ", size, " value ", value), []byte{byte(value)}, size)
		}
	}
}

func TestWriteOfAllKinds(t *testing.T) {
	for size := 2; size <= 8; size++ {
		for i, b := range valuesToWrite(size) {
			wantWrite(t, fmt.Sprint("size ", size, " list ", i, " of ", len(b)), b, size)
		}
		for n := range 700 {
			wantWrite(t, fmt.Sprint("size ", size, ", ", n, " in no order"), noise(n, n, 1<<size), size)
		}
	}
}

// TestWriteNearAFullTable: of each number of values near those that fill the table the first time, and near those that make
// codes wider, as the codes of all of them tell.
func TestWriteNearAFullTable(t *testing.T) {
	for size := 2; size <= 8; size++ {
		b := noise(size, 40000, 1<<size)
		whole, _ := lzw.Write(b, size)
		codes, _ := codesOf(whole, size)
		cleared := 1 + slices.Index(codes[1:], clearOf(size))
		if cleared == 0 {
			t.Fatalf("size %d: 40000 values do not fill a table", size)
		}
		for width := size + 1; width <= 12; width++ {
			filled := min(1<<width-1<<size, cleared)
			ahead := read(coded(size, append(slices.Clone(codes[:filled]), endOf(size))...), size, room)
			for n := max(len(ahead.out)-40, 0); n < len(ahead.out)+40; n++ {
				wantWrite(t, fmt.Sprint("size ", size, ", ", n), b[:n], size)
			}
		}
	}
}

// apart answers values of which no two stand beside each other twice, so that each of them is a code of its own.
func apart() []byte {
	var out []byte
	for step := 1; step < 100; step += 2 { // each odd step comes by all 256 values
		for i := range 256 {
			out = append(out, byte(i*step))
		}
	}
	return out
}

// TestWriteOfRowsThatNeverComeAgain: the most codes that there can be, around the numbers that fill a table of size 8.
func TestWriteOfRowsThatNeverComeAgain(t *testing.T) {
	b := apart()
	for n := 3800; n < 3880; n++ {
		wantWrite(t, n, b[:n], 8)
		if codes := wantWrite(t, n, b[:2*n], 8); codes < 2*n+2 {
			t.Errorf("%d values, no two beside each other twice, are %d codes", 2*n, codes)
		}
	}
	wantWrite(t, "all", b, 8)
}

// TestWriteMakesThemSmaller: a row is told by its place in the table, so that rows of one value are few codes.
func TestWriteMakesThemSmaller(t *testing.T) {
	for size := 2; size <= 8; size++ {
		if n := wantWrite(t, size, rowOf(30000, 1), size); n > 300 {
			t.Errorf("size %d: 30000 times one value are %d codes", size, n)
		}
		if n := wantWrite(t, size, counted(30000, 4), size); n > 600 {
			t.Errorf("size %d: 30000 values of a pattern are %d codes", size, n)
		}
		if n := wantWrite(t, size, rowOf(10, 1), size); n != 6 {
			t.Errorf("size %d: 10 times one value are %d codes, want 6: a Clear, rows of 1, 2, 3, 4, End", size, n)
		}
	}
}

// TestWriteIsReadByAnotherProgram: the library's compress/lzw.
func TestWriteIsReadByAnotherProgram(t *testing.T) {
	for size := 2; size <= 8; size++ {
		for i, b := range valuesToWrite(size) {
			got, _ := lzw.Write(b, size)
			r := stdlzw.NewReader(bytes.NewReader(got), stdlzw.LSB, size)
			if back, err := io.ReadAll(r); err != nil || !bytes.Equal(back, b) {
				t.Errorf("size %d list %d: another program reads %d bytes of %d, %v", size, i, len(back), len(b), err)
			}
		}
	}
}

func wantNoWrite(t *testing.T, what any, b []byte, size int, want api.Errno) {
	t.Helper()
	if out, e := lzw.Write(b, size); e != want || len(out) != 0 {
		t.Errorf("%v: %d bytes, %v; want none, %v", what, len(out), e, want)
	}
}

func TestSizesAndValuesThatMayNotBeWritten(t *testing.T) {
	for _, size := range []int{math.MinInt, -1, 0, 1, 9, 10, 64, math.MaxInt} {
		for _, b := range [][]byte{nil, {0}, {1, 2}, {255}} {
			wantNoWrite(t, size, b, size, api.ErrArg)
		}
	}
	for size := 2; size < 8; size++ {
		for value := 1 << size; value < 256; value++ {
			wantNoWrite(t, value, []byte{byte(value)}, size, api.ErrArg)
		}
		for _, n := range []int{1, 2, 100} {
			for at := range n {
				b := noise(n, n, 1<<size)
				b[at] = 1 << size
				wantNoWrite(t, at, b, size, api.ErrArg)
			}
		}
	}
}

// TestWriteAtTheLimit: just 2^20 bytes, and one more; what may not be is told ahead of that they are too many.
func TestWriteAtTheLimit(t *testing.T) {
	for _, size := range []int{2, 5, 8} {
		for i, b := range [][]byte{rowOf(limit+1, 3), noise(size, limit+1, 1<<size)} {
			got, e := lzw.Write(b[:limit], size)
			if e != api.OK || len(got) > lzw.Most(limit) {
				t.Errorf("size %d list %d: %d bytes, %v", size, i, len(got), e)
			}
			wantAnswer(t, i, read(got, size, limit), answer{out: b[:limit]})
			wantNoWrite(t, i, b, size, api.ErrLong)
			wantNoWrite(t, i, slices.Concat(b, b), size, api.ErrLong)
			wantNoWrite(t, i, b, 9, api.ErrArg)
			wantNoWrite(t, i, b, 1, api.ErrArg)
			if size < 8 {
				b[limit] = 1 << size
				wantNoWrite(t, i, b, size, api.ErrArg)
			}
		}
	}
}

func TestMost(t *testing.T) {
	for _, c := range [][2]int{
		{math.MinInt, 16}, {-5, 16}, {-4, 16}, {-1, 16}, {0, 16}, {1, 18}, {2, 20}, {3, 22}, {4, 25}, {5, 27}, {7, 31}, {8, 34},
		{16384, 36880}, {limit, 2359312}, {1 << 31, 4831838224},
	} {
		if got := lzw.Most(c[0]); got != c[1] {
			t.Errorf("Most(%d) = %d, want %d", c[0], got, c[1])
		}
	}
}

// TestTheSameValuesGiveTheSameBytes: R5 too, whatever was written between.
func TestTheSameValuesGiveTheSameBytes(t *testing.T) {
	for size := 2; size <= 8; size++ {
		for i, b := range valuesToWrite(size) {
			first, _ := lzw.Write(b, size)
			lzw.Write(noise(i, 50, 1<<size), size)
			if second, _ := lzw.Write(slices.Clone(b), size); !bytes.Equal(first, second) {
				t.Errorf("size %d list %d: other bytes the second time", size, i)
			}
		}
	}
}

// TestWriteChangesNothing: R4, spare room included; and its answer is new memory.
func TestWriteChangesNothing(t *testing.T) {
	for size := 2; size <= 8; size += 2 {
		for i, b := range append(valuesToWrite(size), []byte{1, 255, 1}) {
			wantUntouched(t, i, b, func(b []byte) {
				got, _ := lzw.Write(b, size)
				scribble(got)
			})
			first, _ := lzw.Write(b, size)
			want := slices.Clone(first)
			scribble(first)
			if second, _ := lzw.Write(b, size); !bytes.Equal(second, want) {
				t.Errorf("size %d list %d: its answers share memory", size, i)
			}
		}
	}
}
