package bits_test

import (
	"bytes"
	"fmt"
	"math"
	"testing"

	"engraver/api"
	"engraver/bits"
)

// taker is what Low and High have in common as readers.
type taker interface {
	Take(n int) int
	Left() int
}

// noise answers n bytes that look like none in particular, the same ones at each call.
func noise(n int) []byte {
	out := make([]byte, n)
	x := uint32(12345)
	for i := range out {
		x = x*1664525 + 1013904223
		out[i] = byte(x >> 24)
	}
	return out
}

// lowBits and highBits tell the bits of b one by one, in the order of reading.
func lowBits(b []byte) []int {
	var out []int
	for _, c := range b {
		for i := 0; i < 8; i++ {
			out = append(out, int(c>>i)&1)
		}
	}
	return out
}

func highBits(b []byte) []int {
	var out []int
	for _, c := range b {
		for i := 7; i >= 0; i-- {
			out = append(out, int(c>>i)&1)
		}
	}
	return out
}

// lowNumber and highNumber are what the chapter says a Take of just these bits answers.
func lowNumber(bits []int) int {
	x := 0
	for i, b := range bits {
		x += b << i
	}
	return x
}

func highNumber(bits []int) int {
	x := 0
	for _, b := range bits {
		x = 2*x + b
	}
	return x
}

func panics(f func()) (yes bool) {
	defer func() { yes = recover() != nil }()
	f()
	return false
}

func wantTake(t *testing.T, r taker, n, want, left int) {
	t.Helper()
	if got := r.Take(n); got != want {
		t.Errorf("Take(%d) = %d, want %d", n, got, want)
	}
	wantLeft(t, r, left)
}

func wantLeft(t *testing.T, r taker, left int) {
	t.Helper()
	if got := r.Left(); got != left {
		t.Errorf("Left() = %d, want %d", got, left)
	}
}

func TestChapterExamples(t *testing.T) {
	l, h := bits.NewLow([]byte{0x35}), bits.NewHigh([]byte{0x35})
	wantTake(t, l, 3, 5, 5)
	wantTake(t, l, 5, 6, 0)
	wantTake(t, h, 3, 1, 5)
	wantTake(t, h, 5, 21, 0)
}

func TestTakeAcrossBytes(t *testing.T) {
	b := []byte{0xab, 0xcd, 0xef, 0x01, 0x23}
	l, h := bits.NewLow(b), bits.NewHigh(b)
	wantLeft(t, l, 40)
	wantTake(t, l, 0, 0, 40)
	wantTake(t, l, 4, 0xb, 36)
	wantTake(t, l, 24, 0x1efcda, 12)
	wantTake(t, l, 12, 0x230, 0)
	wantTake(t, l, 0, 0, 0)
	wantTake(t, h, 0, 0, 40)
	wantTake(t, h, 4, 0xa, 36)
	wantTake(t, h, 24, 0xbcdef0, 12)
	wantTake(t, h, 12, 0x123, 0)
	wantTake(t, h, 0, 0, 0)
}

func TestTakeAtEveryPlaceAndWidth(t *testing.T) {
	b := noise(8)
	low, high := lowBits(b), highBits(b)
	for at := 0; at <= 24; at++ {
		for n := 0; n <= 24; n++ {
			l, h := bits.NewLow(b), bits.NewHigh(b)
			wantTake(t, l, at, lowNumber(low[:at]), 64-at)
			wantTake(t, h, at, highNumber(high[:at]), 64-at)
			wantTake(t, l, n, lowNumber(low[at:at+n]), 64-at-n)
			wantTake(t, h, n, highNumber(high[at:at+n]), 64-at-n)
		}
	}
}

func TestTakePanicsWithNothingRead(t *testing.T) {
	b := noise(4)
	for _, read := range []int{0, 1, 7, 8, 9, 15, 23, 24} {
		l, h := bits.NewLow(b), bits.NewHigh(b)
		l.Take(read)
		h.Take(read)
		for _, n := range []int{-1, 25, 32, 64, math.MinInt, math.MaxInt, 33 - read} {
			if !panics(func() { l.Take(n) }) || !panics(func() { h.Take(n) }) {
				t.Errorf("Take(%d) behind %d bits of 32 does not panic", n, read)
			}
			wantLeft(t, l, 32-read)
			wantLeft(t, h, 32-read)
		}
		wantTake(t, l, 8, lowNumber(lowBits(b)[read:read+8]), 24-read)
		wantTake(t, h, 8, highNumber(highBits(b)[read:read+8]), 24-read)
	}
}

func TestTakeJustAllAndOneMore(t *testing.T) {
	l, h := bits.NewLow([]byte{0x80}), bits.NewHigh([]byte{0x01})
	wantTake(t, l, 8, 0x80, 0)
	wantTake(t, h, 8, 0x01, 0)
	if !panics(func() { l.Take(1) }) || !panics(func() { h.Take(1) }) {
		t.Error("Take(1) where nothing is left does not panic")
	}
}

func TestAlign(t *testing.T) {
	for read := 0; read <= 24; read++ {
		b := noise(3)
		l := bits.NewLow(b)
		l.Take(read)
		l.Align()
		begun := (read + 7) / 8
		wantLeft(t, l, 8*(3-begun))
		l.Align()
		wantLeft(t, l, 8*(3-begun))
		if begun < 3 {
			wantTake(t, l, 8, int(b[begun]), 8*(2-begun))
		}
	}
}

func TestBytes(t *testing.T) {
	b := []byte{1, 2, 3, 4, 5}
	for _, c := range []struct {
		read, n, left int
		want          []byte
	}{
		{0, 0, 40, nil},
		{0, 5, 0, b},
		{1, 0, 32, nil},
		{1, 2, 16, []byte{2, 3}},
		{7, 4, 0, []byte{2, 3, 4, 5}},
		{8, 4, 0, []byte{2, 3, 4, 5}},
		{9, 3, 0, []byte{3, 4, 5}},
		{24, 1, 8, []byte{4}},
	} {
		l := bits.NewLow(b)
		l.Take(c.read)
		if got := l.Bytes(c.n); !bytes.Equal(got, c.want) {
			t.Errorf("Bytes(%d) behind %d bits = %v, want %v", c.n, c.read, got, c.want)
		}
		wantLeft(t, l, c.left)
	}
}

func TestBytesThenBits(t *testing.T) {
	l := bits.NewLow([]byte{0xff, 7, 0x35, 0xff})
	wantTake(t, l, 2, 3, 30)
	if got := l.Bytes(1); !bytes.Equal(got, []byte{7}) {
		t.Errorf("Bytes(1) = %v, want [7]", got)
	}
	wantTake(t, l, 3, 5, 13)
	wantTake(t, l, 5, 6, 8)
}

func TestBytesAtTheEnd(t *testing.T) {
	l := bits.NewLow([]byte{9})
	wantTake(t, l, 3, 1, 5)
	if got := l.Bytes(0); len(got) != 0 {
		t.Errorf("Bytes(0) = %v, want none", got)
	}
	wantLeft(t, l, 0)
	if got := l.Bytes(0); len(got) != 0 {
		t.Errorf("Bytes(0) = %v, want none", got)
	}
	if !panics(func() { l.Bytes(1) }) {
		t.Error("Bytes(1) where nothing is left does not panic")
	}
}

func TestBytesPanicsWithNothingRead(t *testing.T) {
	for _, read := range []int{0, 1, 7, 8, 9, 24} {
		b := noise(4)
		l := bits.NewLow(b)
		l.Take(read)
		tooMany := 4 - (read+7)/8 + 1
		for _, n := range []int{-1, tooMany, math.MinInt, math.MaxInt, 1 << 60, 1 << 61, math.MaxInt/8 + 1} {
			if !panics(func() { l.Bytes(n) }) {
				t.Errorf("Bytes(%d) behind %d bits of 32 does not panic", n, read)
			}
			wantLeft(t, l, 32-read)
		}
		wantTake(t, l, 8, lowNumber(lowBits(b)[read:read+8]), 24-read)
	}
}

func TestReadsNothing(t *testing.T) {
	for name, r := range map[string]taker{
		"zero Low": &bits.Low{}, "zero High": &bits.High{},
		"NewLow(nil)": bits.NewLow(nil), "NewHigh(nil)": bits.NewHigh(nil),
		"NewLow of none": bits.NewLow([]byte{}), "NewHigh of none": bits.NewHigh([]byte{}),
	} {
		wantTake(t, r, 0, 0, 0)
		for _, n := range []int{-1, 1, 24, 25} {
			if !panics(func() { r.Take(n) }) {
				t.Errorf("%s: Take(%d) does not panic", name, n)
			}
		}
	}
	for _, l := range []*bits.Low{{}, bits.NewLow(nil)} {
		l.Align()
		if got := l.Bytes(0); len(got) != 0 {
			t.Errorf("Bytes(0) = %v, want none", got)
		}
		if !panics(func() { l.Bytes(1) }) || !panics(func() { l.Bytes(-1) }) {
			t.Error("Bytes(1) or Bytes(-1) of nothing does not panic")
		}
	}
}

func TestNilReader(t *testing.T) {
	var l *bits.Low
	var h *bits.High
	l.Align()
	if got := fmt.Sprint(l.Left(), h.Left(), l.Take(0), h.Take(0), len(l.Bytes(0))); got != "0 0 0 0 0" {
		t.Errorf("nil answers %s, want noughts", got)
	}
}

func TestWhatIsReadIsNotKept(t *testing.T) {
	b := []byte{1, 2, 3}
	l, h := bits.NewLow(b), bits.NewHigh(b)
	copy(b, []byte{7, 7, 7})
	wantTake(t, l, 24, 0x030201, 0)
	wantTake(t, h, 24, 0x010203, 0)
}

func TestWhatIsReadIsNotChanged(t *testing.T) {
	whole := []byte{1, 2, 3, 4}
	b := whole[:2]
	l, h := bits.NewLow(b), bits.NewHigh(b)
	l.Put(-1, 24)
	h.Put(-1, 24)
	l.Take(3)
	h.Take(3)
	got := l.Bytes(1)
	got[0] = 99
	_ = append(got, 99, 99)
	if !bytes.Equal(whole, []byte{1, 2, 3, 4}) {
		t.Errorf("the bytes handed in are %v now", whole)
	}
}

func TestBytesAnswersNewMemory(t *testing.T) {
	l := bits.NewLow([]byte{1, 2, 3, 4})
	first := l.Bytes(2)
	all := first[:cap(first)]
	for i := range all {
		all[i] = 99
	}
	if got := l.Bytes(2); !bytes.Equal(got, []byte{3, 4}) {
		t.Errorf("Bytes(2) = %v, want [3 4]: it shares memory with the first ones' spare room", got)
	}
}

// TestPanicValues: layers above tell bits that end from wrong calls by them.
func TestPanicValues(t *testing.T) {
	l, h := bits.NewLow([]byte{1}), bits.NewHigh([]byte{1})
	for i, c := range []struct {
		f    func()
		want any
	}{
		{func() { l.Take(9) }, api.ErrShort},
		{func() { h.Take(9) }, api.ErrShort},
		{func() { l.Bytes(2) }, api.ErrShort},
		{func() { l.Take(-1) }, api.ErrArg},
		{func() { h.Take(25) }, api.ErrArg},
		{func() { l.Bytes(-1) }, api.ErrArg},
		{func() { l.Put(1, 25) }, api.ErrArg},
		{func() { h.Put(1, -1) }, api.ErrArg},
	} {
		func() {
			defer func() {
				if got := recover(); got != c.want {
					t.Errorf("call %d: panic of %v, want %v", i, got, c.want)
				}
			}()
			c.f()
		}()
	}
}
