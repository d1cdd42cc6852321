package zlib_test

import (
	"bytes"
	"fmt"
	"math"
	"slices"
	"testing"

	"engraver/deflate"
	"engraver/zlib"
)

// wantClosed asks for all that P6.1 says of Close.
func wantClosed(t *testing.T, what any, got, b []byte) {
	t.Helper()
	if len(got) < 6 || len(got) > zlib.Most(len(b)) {
		t.Errorf("%v: %d bytes, want 6 to %d", what, len(got), zlib.Most(len(b)))
		return
	}
	head, stream, sum := got[:2], got[2:len(got)-4], got[len(got)-4:]
	if !bytes.Equal(head, []byte{0x78, 1}) {
		t.Errorf("%v: begins with % x, want 78 01", what, head)
	}
	if !bytes.Equal(stream, deflate.All(b)) {
		t.Errorf("%v: what stands between is not what deflate says", what)
	}
	if want := slowSum(b); !bytes.Equal(sum, want) {
		t.Errorf("%v: ends with % x, want % x", what, sum, want)
	}
	wantOpen(t, what, got, len(b), b)
	if back, err := otherOpens(got); err != nil || !bytes.Equal(back, b) {
		t.Errorf("%v: another program reads %d bytes of %d, %v", what, len(back), len(b), err)
	}
}

// slowSum is the Adler-32, each half modulo 65521 with each byte, highest byte first.
func slowSum(b []byte) []byte {
	one, two := 1, 0
	for _, c := range b {
		one = (one + int(c)) % 65521
		two = (two + one) % 65521
	}
	return []byte{byte(two >> 8), byte(two), byte(one >> 8), byte(one)}
}

func TestCloseOfNoBytes(t *testing.T) {
	want := []byte{0x78, 1, 3, 0, 0, 0, 0, 1}
	if got := zlib.Close(nil); !bytes.Equal(got, want) {
		t.Errorf("Close(nil) = % x, want % x", got, want)
	}
	if got := zlib.Close([]byte{}); !bytes.Equal(got, want) {
		t.Errorf("Close of an empty list = % x, want % x", got, want)
	}
}

func TestCloseOfOneByte(t *testing.T) {
	for b := range 256 {
		wantClosed(t, b, zlib.Close([]byte{byte(b)}), []byte{byte(b)})
	}
}

func TestCloseOfAllKinds(t *testing.T) {
	for i, b := range samples() {
		wantClosed(t, fmt.Sprintf("sample %d, %d bytes", i, len(b)), zlib.Close(b), b)
	}
	for n := range 300 {
		wantClosed(t, fmt.Sprint(n, " in no order"), zlib.Close(noise(uint32(n), n)), noise(uint32(n), n))
		wantClosed(t, fmt.Sprint(n, " of a text"), zlib.Close(text(n)), text(n))
	}
}

// TestCloseAtTheLimit: just 2^22 bytes, and one more.
func TestCloseAtTheLimit(t *testing.T) {
	for _, b := range [][]byte{row(limit+1, 0), noise(1, limit+1)} {
		wantClosed(t, "just the limit", zlib.Close(b[:limit]), b[:limit])
		if got := zlib.Close(b); len(got) != 0 {
			t.Errorf("one more than the limit: %d bytes", len(got))
		}
	}
	if got := zlib.Close(make([]byte, 2*limit)); len(got) != 0 {
		t.Errorf("twice the limit: %d bytes", len(got))
	}
}

// TestCloseReachesMost: bytes that nothing makes smaller need nearly all that Most tells.
func TestCloseReachesMost(t *testing.T) {
	for _, n := range []int{1000, block, 2 * block} {
		got := len(zlib.Close(noise(8, n)))
		if most := zlib.Most(n); got > most || got < most-5 {
			t.Errorf("%d bytes in no order: %d bytes, at most %d", n, got, most)
		}
	}
}

func TestMost(t *testing.T) {
	for _, c := range []struct{ n, want int }{
		{math.MinInt, 11}, {-65536, 11}, {-1, 11}, {0, 11}, {1, 17}, {2, 18},
		{65534, 65550}, {65535, 65551}, {65536, 65557}, {131069, 131090}, {131070, 131091}, {131071, 131097},
		{196605, 196631}, {196606, 196637}, {1 << 22, 1<<22 + 65*5 + 5 + 6}, {1<<22 + 1, 1<<22 + 1 + 65*5 + 5 + 6},
	} {
		if got := zlib.Most(c.n); got != c.want || got != deflate.Most(c.n)+6 {
			t.Errorf("Most(%d) = %d, want %d, deflate's %d and 6", c.n, got, c.want, deflate.Most(c.n))
		}
	}
}

func TestCloseBytesAreNeitherChangedNorKept(t *testing.T) {
	for _, b := range [][]byte{nil, text(500), noise(1, 500), row(500, 4)} {
		wantUntouched(t, b, zlib.Close)
	}
}

func TestStreamIsTheSameEachTime(t *testing.T) {
	for _, b := range samples() {
		if !bytes.Equal(zlib.Close(b), zlib.Close(slices.Clone(b))) {
			t.Errorf("%d bytes have two streams", len(b))
		}
	}
}
