package lzw_test

import (
	"bytes"
	stdlzw "compress/lzw"
	"fmt"
	"math"
	"slices"
	"testing"

	"engraver/api"
	"engraver/lzw"
)

func TestChapterExample(t *testing.T) {
	wantOut(t, "8c 0a", []byte{0x8c, 0x0a}, 2, []byte{1, 2})
}

func TestSizesAndRoomsThatMayNotBe(t *testing.T) {
	for _, b := range [][]byte{nil, {0x8c, 0x0a}, {0xff, 0xff}} {
		for _, size := range []int{math.MinInt, -1, 0, 1, 9, 10, 12, 64, math.MaxInt} {
			for _, most := range []int{math.MinInt, -1, 0, 1, room, math.MaxInt} {
				wantErr(t, fmt.Sprint("size ", size, " most ", most), b, size, most, api.ErrArg)
			}
		}
		for size := 2; size <= 8; size++ {
			for _, most := range []int{math.MinInt, -2, -1} {
				wantErr(t, fmt.Sprint("size ", size, " most ", most), b, size, most, api.ErrArg)
			}
		}
	}
}

// TestASingleValue: each one of each size, with and without a Clear ahead.
func TestASingleValue(t *testing.T) {
	for size := 2; size <= 8; size++ {
		for value := range 1 << size {
			want := []byte{byte(value)}
			wantOut(t, value, coded(size, clearOf(size), value, endOf(size)), size, want)
			wantOut(t, value, coded(size, value, endOf(size)), size, want)
		}
	}
}

// TestTheRowThatIsBeingMade: the last row and its first value again.
func TestTheRowThatIsBeingMade(t *testing.T) {
	for size := 2; size <= 8; size++ {
		first, end := endOf(size)+1, endOf(size)
		wantOut(t, size, coded(size, 3, first, end), size, rowOf(3, 3))
		wantOut(t, size, coded(size, 3, first, first+1, end), size, rowOf(6, 3))
		wantOut(t, size, coded(size, 1, 2, first+1, end), size, []byte{1, 2, 2, 2})
		wantOut(t, size, coded(size, 1, 2, first, first+2, end), size, []byte{1, 2, 1, 2, 1, 2, 1})
		wantOut(t, size, coded(size, 1, 2, first, first+2, first+3, end), size, []byte{1, 2, 1, 2, 1, 2, 1, 1, 2, 1, 1})
	}
	var codes []int // each one the next, till the table is full and the last row is its longest
	for code := endOf(2) + 1; code < full; code++ {
		codes = append(codes, code)
	}
	n := len(codes) + 1
	codes = append(append([]int{2}, codes...), endOf(2))
	wantAnswer(t, "all", read(coded(2, codes...), 2, n*(n+1)/2), answer{out: rowOf(n*(n+1)/2, 2)})
}

// TestRowsThatWereMade: each is the last row and the first value of the one behind.
func TestRowsThatWereMade(t *testing.T) {
	for size := 2; size <= 8; size++ {
		first, end := endOf(size)+1, endOf(size)
		wantOut(t, size, coded(size, 1, 2, 3, first, end), size, []byte{1, 2, 3, 1, 2})
		wantOut(t, size, coded(size, 1, 2, 3, first+1, end), size, []byte{1, 2, 3, 2, 3})
		wantOut(t, size, coded(size, 1, 2, first, 3, first+1, first+2, end), size, []byte{1, 2, 1, 2, 3, 2, 1, 1, 2, 3})
	}
}

// TestACodeTooGreat: behind any number of rows the next to be made may be, and the one behind that not.
func TestACodeTooGreat(t *testing.T) {
	for size := 2; size <= 8; size++ {
		for rows := 1; rows < 3000; rows += 1 + rows/9 {
			codes := values(noise(size, rows, 1<<size))
			next := endOf(size) + rows
			made := read(coded(size, append(codes, next, endOf(size))...), size, room)
			if made.err != api.OK || len(made.out) != rows+2 {
				t.Errorf("size %d, behind %d rows: %v", size, rows, made.short())
			}
			widest := 1<<widthBehind(size, rows) - 1
			for _, code := range []int{next + 1, (next + widest + 1) / 2, widest} {
				if code > next && code <= widest {
					wantErr(t, fmt.Sprint("size ", size, ", ", code, " behind ", rows), coded(size, append(codes, code, endOf(size))...), size, room, api.ErrForm)
				}
			}
		}
	}
}

// TestTheFirstCode: at the beginning, and behind a Clear, also one behind rows.
func TestTheFirstCode(t *testing.T) {
	for size := 2; size <= 8; size++ {
		clear, end := clearOf(size), endOf(size)
		for _, c := range []struct {
			ahead []int
			want  []byte
		}{{nil, nil}, {[]int{clear}, nil}, {[]int{clear, clear, clear}, nil}, {[]int{clear, 1, 2, end + 1, clear}, []byte{1, 2, 1, 2}}, {[]int{1, 1, end + 1, clear, clear}, rowOf(4, 1)}} {
			what := fmt.Sprint("size ", size, " behind ", c.ahead)
			begun := func(codes ...int) []byte { return coded(size, slices.Concat(c.ahead, codes)...) }
			for code := end + 1; code < 1<<(size+1); code++ {
				wantErr(t, fmt.Sprint(what, ": ", code), begun(code, end), size, room, api.ErrForm)
			}
			wantOut(t, what+": End", begun(end), size, c.want)
			wantOut(t, what+": a Clear and End", begun(clear, end), size, c.want)
			wantOut(t, what+": a value", begun(3, end), size, slices.Concat(c.want, []byte{3}))
			wantOut(t, what+": a Clear and a value", begun(clear, 3, end+1, end), size, slices.Concat(c.want, rowOf(3, 3)))
		}
	}
}

// TestAClearEmptiesTheTable: what was made ahead of it is no row any more, and the width is the first again.
func TestAClearEmptiesTheTable(t *testing.T) {
	for size := 2; size <= 8; size++ {
		clear, end := clearOf(size), endOf(size)
		for _, rows := range []int{1, 2, 3, 5, 70, 500, 5000} {
			b := noise(rows, rows, 1<<size)
			codes := append(values(b), clear, 1)
			wantOut(t, rows, coded(size, append(codes, 0, end+1, end)...), size, slices.Concat(b, []byte{1, 0, 1, 0}))
			if size > 2 {
				wantErr(t, rows, coded(size, append(codes, end+2, end)...), size, room, api.ErrForm)
			}
		}
	}
}

// TestTheWidthGrows: with each number of single values, so that each code's width is asked for.
func TestTheWidthGrows(t *testing.T) {
	for size := 2; size <= 8; size++ {
		b := noise(size, 4500, 1<<size)
		for rows := range 600 {
			wantAnswer(t, rows, read(coded(size, append(values(b[:rows]), endOf(size))...), size, room), answer{out: b[:rows]})
		}
		for width := 10; width <= 12; width++ {
			near := 1<<width - 1<<size
			for rows := near - 6; rows < near+6; rows++ {
				wantAnswer(t, rows, read(coded(size, append(values(b[:rows]), endOf(size))...), size, room), answer{out: b[:rows]})
			}
		}
	}
}

// TestAFullTableGoesOnUnchanged: each of its rows is still there, and none is added, however many codes come.
func TestAFullTableGoesOnUnchanged(t *testing.T) {
	for size := 2; size <= 8; size++ {
		first, end := endOf(size)+1, endOf(size)
		b := noise(size, full-first+1, 1<<size) // behind the first, each of them makes a row
		codes, want := values(b), slices.Clone(b)
		for range 2 {
			for i, code := range []int{full - 1, first, 3, full - 2, full / 2, 1, 2, first + 1} {
				codes = append(codes, code)
				if code >= first {
					want = append(want, b[code-first], b[code-first+1])
				} else {
					want = append(want, byte(code))
				}
				wantOut(t, fmt.Sprint("size ", size, " further ", i), coded(size, append(slices.Clone(codes), end)...), size, want)
			}
		}
		codes = append(append(codes, values(b)...), clearOf(size), 1, first, end)
		wantOut(t, size, coded(size, codes...), size, slices.Concat(want, b, rowOf(3, 1)))
	}
}

// TestCodesThatEndWithoutEnd: behind whole codes, and within one, with each number of bits left.
func TestCodesThatEndWithoutEnd(t *testing.T) {
	for size := 2; size <= 8; size++ {
		wantErr(t, "none", nil, size, room, api.ErrShort)
		wantErr(t, "none", nil, size, 0, api.ErrShort)
		for clears := range 60 {
			whole := taped(size, slices.Repeat([]int{clearOf(size)}, clears)...)
			wantErr(t, clears, whole[:len(whole)/8*8].bytes(), size, 0, api.ErrShort)
		}
		whole := taped(size, append(values(noise(size, 3000, 1<<size)), endOf(size))...)
		for n := range len(whole) / 8 {
			if n > 200 && n%97 != 0 {
				continue
			}
			wantErr(t, fmt.Sprint("size ", size, " cut to ", n), whole[:n*8].bytes(), size, room, api.ErrShort)
		}
	}
}

// TestCutAtEachBit: what fills the last byte is noughts, which may be a value's.
func TestCutAtEachBit(t *testing.T) {
	for i, s := range samples() {
		whole := tapeOf(s.b)
		for n := range len(whole) {
			cut := whole[:n].bytes()
			want, _ := byModel(cut, s.size, room)
			wantAnswer(t, fmt.Sprint("sample ", i, " cut at ", n), read(cut, s.size, room), want)
		}
		cut := s.b[:len(s.b)-1] // End is never whole without the last byte
		wantErr(t, fmt.Sprint("sample ", i, " without its last byte"), cut, s.size, room, api.ErrShort)
	}
}

// TestBehindEnd: neither the bits of its last byte nor further bytes are looked at.
func TestBehindEnd(t *testing.T) {
	for size := 2; size <= 8; size++ {
		for rows := range 20 {
			b := noise(rows, rows, 1<<size)
			whole := taped(size, append(values(b), endOf(size))...)
			for _, behind := range []int{0, 255, 0x5a} {
				filled := slices.Concat(whole, tape(nil).code(behind, 8))
				wantAnswer(t, rows, read(filled[:(len(whole)+7)/8*8].bytes(), size, rows), answer{out: b})
				wantAnswer(t, rows, read(slices.Concat(filled.bytes(), noise(rows, 50, 256)), size, rows), answer{out: b})
			}
		}
	}
}

func TestJustTheRoomAndAByteLess(t *testing.T) {
	for i, s := range samples() {
		want, put := byModel(s.b, s.size, room)
		if want.err != api.OK {
			t.Fatalf("sample %d is broken: %v", i, want.err)
		}
		for _, most := range []int{put, put + 1, room, math.MaxInt} {
			wantAnswer(t, fmt.Sprint("sample ", i, " most ", most), read(s.b, s.size, most), want)
		}
		for most := range put {
			wantErr(t, fmt.Sprint("sample ", i, " most ", most), s.b, s.size, most, api.ErrSize)
		}
	}
}

// TestTheErrorThatIsMetFirst: of codes that break in two ways.
func TestTheErrorThatIsMetFirst(t *testing.T) {
	wantErr(t, "no room ahead of a code too great", coded(3, 1, 2, 15, 9), 3, 1, api.ErrSize)
	wantErr(t, "a code too great where no room is left", coded(2, 1, 7, 5), 2, 1, api.ErrForm)
	wantErr(t, "no room ahead of the end of bits", coded(2, 1, 2), 2, 1, api.ErrSize)
	wantErr(t, "the end of bits where no room is left", taped(2, 1, 6, 2, 3)[:8].bytes(), 2, 3, api.ErrShort)
	wantErr(t, "no room for a row's last value", coded(3, 1, 10, 15), 3, 2, api.ErrSize)
	wantErr(t, "no value first, and no room", coded(2, 6, 1, 5), 2, 0, api.ErrForm)
}

// TestAnyBytes: whatever they are, they are read as a slow reader does.
func TestAnyBytes(t *testing.T) {
	d := dice(7)
	for i := range 6000 {
		size := 2 + d.below(7)
		most := []int{room, d.below(30), d.below(300)}[d.below(3)]
		b := noise(i, d.below(60), 1+d.below(256))
		want, _ := byModel(b, size, most)
		wantAnswer(t, fmt.Sprint("bytes ", i, " size ", size, " most ", most), read(b, size, most), want)
	}
}

// TestAnyCodes: most of them such as may be, of tables that fill and are cleared.
func TestAnyCodes(t *testing.T) {
	for i := range 300 {
		d := dice(i)
		size := 2 + i%7
		b := coded(size, anyCodes(&d, size, d.below(6000))...)
		want, _ := byModel(b, size, 100000)
		wantAnswer(t, fmt.Sprint("codes ", i, " size ", size), read(b, size, 100000), want)
	}
}

func anyCodes(d *dice, size, n int) []int {
	var codes []int
	for rows := 0; len(codes) < n; rows++ {
		code := d.below(min(endOf(size)+1+rows, full))
		switch {
		case d.below(3000) == 0:
			code = clearOf(size)
		case code == clearOf(size), code == endOf(size), rows == 0:
			code = d.below(1 << size)
		}
		codes = append(codes, code)
		if code == clearOf(size) {
			rows = -1
		}
	}
	return append(codes, endOf(size))
}

// TestCodesOfAnotherProgram: those that the library's compress/lzw writes.
func TestCodesOfAnotherProgram(t *testing.T) {
	for size := 2; size <= 8; size++ {
		for _, b := range valuesToWrite(size) {
			if len(b) == 0 {
				continue // it writes no End of none
			}
			var buffer bytes.Buffer
			w := stdlzw.NewWriter(&buffer, stdlzw.LSB, size)
			w.Write(b)
			w.Close()
			wantOut(t, fmt.Sprint("size ", size, ", ", len(b), " bytes"), buffer.Bytes(), size, b)
		}
	}
}

// TestReadChangesNothing: R4, spare room included.
func TestReadChangesNothing(t *testing.T) {
	for i, s := range samples() {
		wantUntouched(t, i, s.b, func(b []byte) { scribble(read(b, s.size, room).out) })
		wantUntouched(t, i, s.b, func(b []byte) { read(b[:len(b)/2], s.size, room) })
		first := read(s.b, s.size, room)
		want := answer{slices.Clone(first.out), first.err}
		scribble(first.out)
		wantAnswer(t, i, read(s.b, s.size, room), want)
	}
}

// TestNoBytesBesideAnError: R2, by what was put out ahead of it.
func TestNoBytesBesideAnError(t *testing.T) {
	for _, b := range [][]byte{coded(2, 1, 2, 3, 15), coded(2, 1, 2, 3), coded(2, 1, 2, 3, 0, 5)} {
		if out, e := lzw.Read(b, 2, 3); e == api.OK || len(out) != 0 {
			t.Errorf("%x: %d bytes beside %v", b, len(out), e)
		}
	}
}
