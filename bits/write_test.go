package bits_test

import (
	"bytes"
	"errors"
	"math"
	"testing"

	"engraver/bits"
)

// putter is what Low and High have in common as writers.
type putter interface {
	taker
	Put(x, n int)
	Out() []byte
}

func wantOut(t *testing.T, p putter, want ...byte) {
	t.Helper()
	if got := p.Out(); !bytes.Equal(got, want) {
		t.Errorf("Out() = %x, want %x", got, want)
	}
}

// pieces answers widths of every kind, and for each a number that has bits above it too.
func pieces() (xs, ns []int) {
	b := noise(4 * 200)
	for i := 0; i < 200; i++ {
		x := int(b[4*i])<<24 | int(b[4*i+1])<<16 | int(b[4*i+2])<<8 | int(b[4*i+3])
		if i%3 == 0 {
			x = -x
		}
		xs, ns = append(xs, x), append(ns, i*7%25)
	}
	return xs, ns
}

func TestTakeReadsWhatPutWrites(t *testing.T) {
	xs, ns := pieces()
	var l bits.Low
	var h bits.High
	sum := 0
	for i, x := range xs {
		l.Put(x, ns[i])
		h.Put(x, ns[i])
		sum += ns[i]
	}
	if len(l.Out()) != (sum+7)/8 || len(h.Out()) != (sum+7)/8 {
		t.Fatalf("Out has %d and %d bytes for %d bits", len(l.Out()), len(h.Out()), sum)
	}
	readLow, readHigh := bits.NewLow(l.Out()), bits.NewHigh(h.Out())
	left := readLow.Left()
	for i, x := range xs {
		left -= ns[i]
		wantTake(t, readLow, ns[i], x&(1<<ns[i]-1), left)
		wantTake(t, readHigh, ns[i], x&(1<<ns[i]-1), left)
	}
	wantTake(t, readLow, left, 0, 0)
	wantTake(t, readHigh, left, 0, 0)
}

func TestPutBytes(t *testing.T) {
	var l bits.Low
	var h bits.High
	l.Put(5, 3)
	wantOut(t, &l, 0x05)
	l.Put(6, 5)
	wantOut(t, &l, 0x35)
	l.Put(1, 1)
	wantOut(t, &l, 0x35, 0x01)
	l.Put(0xabcdef, 24)
	wantOut(t, &l, 0x35, 0xdf, 0x9b, 0x57, 0x01)
	h.Put(1, 3)
	wantOut(t, &h, 0x20)
	h.Put(21, 5)
	wantOut(t, &h, 0x35)
	h.Put(1, 1)
	wantOut(t, &h, 0x35, 0x80)
	h.Put(0xabcdef, 24)
	wantOut(t, &h, 0x35, 0xd5, 0xe6, 0xf7, 0x80)
}

func TestPutTakesTheLowestBits(t *testing.T) {
	for _, c := range []struct {
		x, n      int
		low, high []byte
	}{
		{-1, 0, nil, nil},
		{-1, 3, []byte{0x07}, []byte{0xe0}},
		{-2, 3, []byte{0x06}, []byte{0xc0}},
		{-1, 24, []byte{0xff, 0xff, 0xff}, []byte{0xff, 0xff, 0xff}},
		{math.MinInt, 24, []byte{0, 0, 0}, []byte{0, 0, 0}},
		{math.MaxInt, 9, []byte{0xff, 0x01}, []byte{0xff, 0x80}},
		{0x1ff00, 9, []byte{0x00, 0x01}, []byte{0x80, 0x00}},
		{0x7f000000, 24, []byte{0, 0, 0}, []byte{0, 0, 0}},
	} {
		var l bits.Low
		var h bits.High
		l.Put(c.x, c.n)
		h.Put(c.x, c.n)
		wantOut(t, &l, c.low...)
		wantOut(t, &h, c.high...)
	}
}

func TestLastByteIsFilledWithNoughts(t *testing.T) {
	for n := 1; n <= 24; n++ {
		var l bits.Low
		var h bits.High
		l.Put(-1, n)
		h.Put(-1, n)
		used := (n-1)%8 + 1
		low, high := l.Out(), h.Out()
		if len(low) != (n+7)/8 || low[len(low)-1] != byte(1<<used-1) {
			t.Errorf("Low: %d ones are %x", n, low)
		}
		if len(high) != (n+7)/8 || high[len(high)-1] != byte(0xff<<(8-used)) {
			t.Errorf("High: %d ones are %x", n, high)
		}
	}
}

func TestPutPanicsWithNothingWritten(t *testing.T) {
	for _, p := range []putter{&bits.Low{}, &bits.High{}, bits.NewLow([]byte{1}), bits.NewHigh([]byte{1})} {
		for _, before := range []int{0, 3, 5, 24} {
			p.Put(0x5a5a5a, before)
			out, left := p.Out(), p.Left()
			for _, n := range []int{-1, 25, 32, 64, math.MinInt, math.MaxInt} {
				if !panics(func() { p.Put(-1, n) }) {
					t.Fatalf("%T: Put(-1, %d) does not panic", p, n) // a greater n would write till memory ends
				}
				wantOut(t, p, out...)
				wantLeft(t, p, left)
			}
		}
	}
}

func TestPutGoesOnBehindAPanic(t *testing.T) {
	var l bits.Low
	var h bits.High
	l.Put(1, 3)
	h.Put(1, 3)
	panics(func() { l.Put(-1, 25) })
	panics(func() { h.Put(-1, 25) })
	l.Put(1, 1)
	h.Put(1, 1)
	wantOut(t, &l, 0x09)
	wantOut(t, &h, 0x30)
}

func TestWritingAndReadingAreApart(t *testing.T) {
	for _, p := range []putter{bits.NewLow([]byte{0xc3, 0x99}), bits.NewHigh([]byte{0xc3, 0x99})} {
		wantOut(t, p)
		p.Put(0, 4)
		wantLeft(t, p, 16)
		wantOut(t, p, 0)
		wantTake(t, p, 8, 0xc3, 8)
		wantOut(t, p, 0)
		p.Put(0, 24)
		wantTake(t, p, 8, 0x99, 0)
		wantOut(t, p, 0, 0, 0, 0)
	}
	l := bits.NewLow([]byte{7, 8})
	l.Put(1, 1)
	l.Take(1)
	l.Align()
	l.Put(1, 1)
	l.Bytes(1)
	l.Put(1, 1)
	wantOut(t, l, 7)
}

func TestZeroMayBeWritten(t *testing.T) {
	for _, p := range []putter{&bits.Low{}, &bits.High{}} {
		wantOut(t, p)
		p.Put(5, 0)
		wantOut(t, p)
		p.Put(0xa5, 8)
		wantOut(t, p, 0xa5)
		wantLeft(t, p, 0)
		if !panics(func() { p.Take(1) }) {
			t.Errorf("%T: what was written is read", p)
		}
	}
}

func TestNilWriter(t *testing.T) {
	var l *bits.Low
	var h *bits.High
	l.Put(1, 1)
	h.Put(1, 1)
	if len(l.Out()) != 0 || len(h.Out()) != 0 {
		t.Error("a nil writer has something written")
	}
}

func TestOutAnswersNewMemory(t *testing.T) {
	for _, p := range []putter{&bits.Low{}, &bits.High{}} {
		for i := 0; i < 5; i++ {
			p.Put(0x11, 8)
		}
		first, second := p.Out(), p.Out()
		all := first[:cap(first)]
		for i := range all {
			all[i] = 99
		}
		if !bytes.Equal(second, []byte{0x11, 0x11, 0x11, 0x11, 0x11}) {
			t.Errorf("%T: two answers share memory", p)
		}
		spare := second[:cap(second)]
		p.Put(0x22, 8)
		for i := range spare {
			spare[i] = 99
		}
		wantOut(t, p, 0x11, 0x11, 0x11, 0x11, 0x11, 0x22)
	}
}

func TestOutIsAsItWasWhenAsked(t *testing.T) {
	for _, p := range []putter{&bits.Low{}, &bits.High{}} {
		p.Put(0, 4)
		out := p.Out()
		p.Put(-1, 24)
		if !bytes.Equal(out, []byte{0}) {
			t.Errorf("%T: an answer changed behind it: %x", p, out)
		}
	}
}

func TestGuard(t *testing.T) {
	calls := 0
	var none []int
	var noMap map[int]int
	for name, c := range map[string]struct {
		f    func()
		want bool
	}{
		"nil":               {nil, true},
		"nothing":           {func() { calls++ }, true},
		"text":              {func() { calls++; panic("x") }, false},
		"error":             {func() { calls++; panic(errors.New("x")) }, false},
		"panic of nil":      {func() { calls++; panic(nil) }, false},
		"index":             {func() { calls++; none[len(none)]++ }, false},
		"nil map":           {func() { calls++; noMap[1] = 1 }, false},
		"bits end":          {func() { calls++; bits.NewLow(nil).Take(1) }, false},
		"bits do not end":   {func() { calls++; bits.NewLow([]byte{1}).Take(1) }, true},
		"recovered inside":  {func() { calls++; panics(func() { panic("x") }) }, true},
		"a guard inside":    {func() { calls++; bits.Guard(func() { panic("x") }) }, true},
		"panic in deferred": {func() { calls++; defer panic("x") }, false},
	} {
		before := calls
		if got := bits.Guard(c.f); got != c.want {
			t.Errorf("Guard of %s = %v, want %v", name, got, c.want)
		}
		if c.f != nil && calls != before+1 {
			t.Errorf("Guard of %s called it %d times", name, calls-before)
		}
	}
}

func TestGuardKeepsWhatWasDoneAheadOfThePanic(t *testing.T) {
	l := bits.NewLow([]byte{0x35})
	got := 0
	if bits.Guard(func() { got = l.Take(3); got += l.Take(6) }) {
		t.Error("Guard = true, want false")
	}
	if got != 5 || l.Left() != 5 {
		t.Errorf("behind the panic: %d, %d bits left; want 5, 5", got, l.Left())
	}
}
