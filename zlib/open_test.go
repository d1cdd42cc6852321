package zlib_test

import (
	"bytes"
	"fmt"
	"math"
	"slices"
	"testing"

	"engraver/api"
	"engraver/inflate"
	"engraver/zlib"
)

func TestOpenExample(t *testing.T) {
	wantOpen(t, "the chapter's", []byte{0x78, 1, 3, 0, 0, 0, 0, 1}, 0, nil)
	wantOpen(t, "the chapter's", []byte{0x78, 1, 3, 0, 0, 0, 0, 1}, 1000, nil)
	wantOpen(t, "8 and 9", good(), 2, []byte{8, 9})
}

func TestOpenOfFewerThanSixBytes(t *testing.T) {
	wantNot(t, "nil", nil, 9, api.ErrShort)
	for _, b := range [][]byte{good(), {0x78, 1, 7, 0, 0, 0}, {0, 0, 0, 0, 0, 0}, {0x78, 0x20, 3, 0, 0, 0}} {
		for n := range 6 {
			wantNot(t, fmt.Sprint(b[:n]), b[:n], 9, api.ErrShort)
			wantNot(t, fmt.Sprint(b[:n]), b[:n], -1, api.ErrShort)
		}
	}
}

// TestOpenOfSixBytes: they are looked at, whatever is to be said of them.
func TestOpenOfSixBytes(t *testing.T) {
	wantNot(t, "a head of none", []byte{0, 0, 3, 0, 0, 0}, 9, api.ErrForm)
	wantNot(t, "no room at all", []byte{0x78, 1, 3, 0, 0, 0}, -1, api.ErrArg)
	wantNot(t, "a block of no kind", []byte{0x78, 1, 7, 0, 0, 0}, 9, api.ErrForm)
	wantNot(t, "a block that is cut", good()[:6], 9, api.ErrShort)
	wantNot(t, "a sum that is cut", []byte{0x78, 1, 3, 0, 0, 0}, 9, api.ErrShort)
	wantNot(t, "the sum of none, cut", []byte{0x78, 1, 3, 0, 0, 1}, 9, api.ErrShort)
}

// TestOpenOfEachHead: what a head must be, said one thing after another.
func TestOpenOfEachHead(t *testing.T) {
	for head := range 1 << 16 {
		b := good()
		b[0], b[1] = byte(head>>8), byte(head)
		method, window, asks := head>>8%16, head>>12, head>>5%2 == 1
		if method == 8 && window <= 7 && head%31 == 0 && !asks {
			wantOpen(t, fmt.Sprintf("head %04x", head), b, 9, []byte{8, 9})
		} else {
			wantNot(t, fmt.Sprintf("head %04x", head), b, 9, api.ErrForm)
		}
		_, err := otherOpens(b)
		if _, e := zlib.Open(b, 9); (e == api.OK) != (err == nil) {
			t.Errorf("head %04x: %v, another program %v", head, e, err)
		}
	}
}

// TestOpenOfHeadsWithOneFault: of each, all else is as it must be.
func TestOpenOfHeadsWithOneFault(t *testing.T) {
	for _, c := range []struct {
		what          string
		first, second byte
	}{
		{"method 7", 0x77, 0x09},
		{"method 9", 0x79, 0x14},
		{"method 0", 0x70, 0x02},
		{"method 15", 0x7f, 0x13},
		{"window 8", 0x88, 0x1c},
		{"window 15", 0xf8, 0x1a},
		{"one above a multiple", 0x78, 0x02},
		{"one below a multiple", 0x78, 0x00},
		{"a dictionary", 0x78, 0x20},
		{"a dictionary, another level", 0x78, 0xbb},
	} {
		b := good()
		b[0], b[1] = c.first, c.second
		wantNot(t, c.what, b, 9, api.ErrForm)
	}
	for window := range 8 {
		b := good()
		b[0], b[1] = byte(window<<4|8), 0
		b[1] = byte(31-int(b[0])<<8%31) % 31
		wantOpen(t, fmt.Sprint("window ", window), b, 9, []byte{8, 9})
	}
}

// TestOpenAnswersTheStreamsError: whatever stands between the head and the sum, its error is inflate's.
func TestOpenAnswersTheStreamsError(t *testing.T) {
	for _, c := range []struct {
		what   string
		stream []byte
		most   int
		want   api.Errno
	}{
		{"no kind of block", []byte{7}, 9, api.ErrForm},
		{"a length that is not turned over", []byte{1, 2, 0, 252, 255, 8, 9}, 9, api.ErrForm},
		{"a stored block that is cut", []byte{1, 7, 0, 248, 255}, 9, api.ErrShort},
		{"no last block", []byte{0, 0, 0, 255, 255}, 9, api.ErrShort},
		{"a distance beyond the beginning", []byte{0x63, 0, 0x42, 0}, 9, api.ErrForm},
		{"a byte more than there is room", []byte{1, 2, 0, 253, 255, 8, 9}, 1, api.ErrSize},
		{"no room", []byte{1, 2, 0, 253, 255, 8, 9}, 0, api.ErrSize},
		{"room below 0", []byte{1, 2, 0, 253, 255, 8, 9}, -1, api.ErrArg},
		{"room below 0, of no bytes", []byte{3, 0}, math.MinInt, api.ErrArg},
	} {
		b := framed(c.stream, 0, 27, 0, 18)
		if _, _, e := inflate.All(b[2:], c.most); e != c.want {
			t.Errorf("%s: inflate says %v, want %v", c.what, e, c.want)
		}
		wantNot(t, c.what, b, c.most, c.want)
	}
}

// TestOpenOfEachSpoiledStream: whatever bit is turned, the stream's error is inflate's, and comes ahead of what the rest is.
func TestOpenOfEachSpoiledStream(t *testing.T) {
	whole := zlib.Close(text(120))
	for at := 2; at < len(whole)-4; at++ {
		for bit := range 8 {
			b := slices.Clone(whole)
			b[at] ^= 1 << bit
			what := fmt.Sprintf("bit %d of byte %d", bit, at)
			out, used, e := inflate.All(b[2:], 200)
			switch left := len(b) - 2 - used; {
			case e != api.OK:
				wantNot(t, what, b, 200, e)
			case left < 4:
				wantNot(t, what, b, 200, api.ErrShort)
			case left > 4:
				wantNot(t, what, b, 200, api.ErrForm)
			case bytes.Equal(out, text(120)):
				wantOpen(t, what, b, 200, out)
			default:
				wantNot(t, what, b, 200, api.ErrSum)
			}
		}
	}
}

// TestOpenTellsTheFirstError: of several, in the order of the promise.
func TestOpenTellsTheFirstError(t *testing.T) {
	kindless := []byte{7}
	two := []byte{1, 2, 0, 253, 255, 8, 9}
	wantNot(t, "too short, and of no head", []byte{0, 1, 7, 0, 0}, -1, api.ErrShort)
	wantNot(t, "of no head, and room below 0", append([]byte{0x77, 1}, framed(two)[2:]...), -1, api.ErrForm)
	wantNot(t, "of no head, and no room", append([]byte{0x78, 2}, framed(two)[2:]...), 0, api.ErrForm)
	wantNot(t, "of no head, and cut", append([]byte{0x78, 0x20}, two[:5]...), 9, api.ErrForm)
	wantNot(t, "room below 0, and of no form", framed(kindless, 0, 0, 0, 1), -1, api.ErrArg)
	wantNot(t, "room below 0, and cut", framed(two[:6]), -1, api.ErrArg)
	wantNot(t, "no form, and no sum", framed(kindless, 0, 0, 0), 9, api.ErrForm)
	wantNot(t, "no form, and too much behind", framed(kindless, 0, 0, 0, 0, 0, 0), 9, api.ErrForm)
	wantNot(t, "too great, and no sum", framed(two), 1, api.ErrSize)
	wantNot(t, "too great, and a sum that is cut", framed(two, 0, 27, 0), 1, api.ErrSize)
	wantNot(t, "too great, and too much behind", framed(two, 0, 27, 0, 18, 0), 1, api.ErrSize)
	wantNot(t, "too great, and another sum", framed(two, 0, 27, 0, 19), 1, api.ErrSize)
	wantNot(t, "the stream cut, and no sum", framed(two[:6]), 9, api.ErrShort)
	wantNot(t, "too little behind, and of another sum", framed(two, 1, 1, 1), 9, api.ErrShort)
	wantNot(t, "too much behind, and of another sum", framed(two, 1, 1, 1, 1, 1), 9, api.ErrForm)
}

// TestOpenReadsTheStreamWhereverItEnds: where it takes bytes that the sum should have, the rest is too short.
func TestOpenReadsTheStreamWhereverItEnds(t *testing.T) {
	wantNot(t, "two of four bytes taken", framed([]byte{1, 2, 0, 253, 255}, 8, 9, 0, 27), 9, api.ErrShort)
	wantNot(t, "all four taken", framed([]byte{1, 4, 0, 251, 255}, 8, 9, 0, 27), 9, api.ErrShort)
	wantNot(t, "an empty block ahead of the sum", framed([]byte{3, 0, 0}, 0, 0, 0, 1), 9, api.ErrForm)
}

func TestOpenOfTooFewBytesBehind(t *testing.T) {
	for _, b := range samples() {
		whole := zlib.Close(b)
		for cut := 1; cut <= 4; cut++ {
			wantNot(t, fmt.Sprintf("%d bytes, %d cut", len(b), cut), whole[:len(whole)-cut], len(b), api.ErrShort)
		}
	}
}

func TestOpenOfTooManyBytesBehind(t *testing.T) {
	for _, b := range [][]byte{nil, {8, 9}, text(300), noise(9, 300)} {
		whole := zlib.Close(b)
		for _, more := range [][]byte{{0}, {1}, whole[len(whole)-4:], whole, make([]byte, 1000)} {
			wantNot(t, fmt.Sprintf("%d bytes, %d behind", len(b), len(more)), slices.Concat(whole, more), len(b), api.ErrForm)
		}
	}
}

func TestOpenOfAnotherSum(t *testing.T) {
	for _, b := range [][]byte{nil, {0}, {8, 9}, text(300), noise(9, 300), row(70000, 255)} {
		whole := zlib.Close(b)
		for at := len(whole) - 4; at < len(whole); at++ {
			for bit := range 8 {
				spoiled := slices.Clone(whole)
				spoiled[at] ^= 1 << bit
				wantNot(t, fmt.Sprintf("%d bytes, bit %d of %d", len(b), bit, at), spoiled, len(b), api.ErrSum)
			}
		}
	}
	wantNot(t, "lowest byte first", framed([]byte{1, 2, 0, 253, 255, 8, 9}, 18, 0, 27, 0), 9, api.ErrSum)
	wantNot(t, "no sum of none", framed([]byte{3, 0}, 0, 0, 0, 0), 9, api.ErrSum)
}

func TestOpenWithJustTheRoom(t *testing.T) {
	for _, b := range samples() {
		whole := zlib.Close(b)
		for _, most := range []int{len(b), len(b) + 1, math.MaxInt} {
			wantOpen(t, fmt.Sprintf("%d bytes, room for %d", len(b), most), whole, most, b)
		}
		if len(b) > 0 {
			wantNot(t, fmt.Sprintf("%d bytes, a byte less", len(b)), whole, len(b)-1, api.ErrSize)
			wantNot(t, fmt.Sprintf("%d bytes, no room", len(b)), whole, 0, api.ErrSize)
		}
		wantNot(t, fmt.Sprintf("%d bytes, room below 0", len(b)), whole, -1, api.ErrArg)
	}
}

func TestOpenOfMoreThanCloseMakes(t *testing.T) {
	b := row(limit+5, 77)
	wantOpen(t, "more than a stream is made of", otherCloses(t, b, 9), len(b), b)
}

func TestOpenReadsWhatAnotherProgramWrote(t *testing.T) {
	for _, b := range samples() {
		for level := -2; level <= 9; level++ {
			whole := otherCloses(t, b, level)
			wantOpen(t, fmt.Sprintf("%d bytes, level %d", len(b), level), whole, len(b), b)
		}
	}
}

func TestOpenOfNoStreamAtAll(t *testing.T) {
	for n := range 200 {
		b := noise(uint32(n), n)
		if out, e := zlib.Open(b, 1000); e == api.OK || len(out) != 0 {
			t.Errorf("%d bytes of noise: %d bytes, %v", n, len(out), e)
		}
		if n >= 2 {
			b[0], b[1] = 0x78, 1
			if out, e := zlib.Open(b, 1000); e == api.OK || len(out) != 0 {
				t.Errorf("%d bytes of noise behind a head: %d bytes, %v", n, len(out), e)
			}
		}
	}
}

func TestOpenBytesAreNeitherChangedNorKept(t *testing.T) {
	for _, b := range [][]byte{good(), zlib.Close(text(500)), zlib.Close(noise(1, 500)), good()[:9], {0x78, 2, 0, 0, 0, 0, 0}} {
		wantUntouched(t, b, func(b []byte) []byte {
			out, _ := zlib.Open(b, 500)
			return out
		})
	}
}
