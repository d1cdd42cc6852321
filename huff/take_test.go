package huff_test

import (
	"bytes"
	"math"
	"strings"
	"testing"

	"engraver/api"
	"engraver/bits"
	"engraver/huff"
)

// TestTakeReadsWhatPutWrites: each symbol by itself, and no bit beyond its word.
func TestTakeReadsWhatPutWrites(t *testing.T) {
	for _, lengths := range codes() {
		c := must(t, lengths)
		for symbol, size := range lengths {
			var l bits.Low
			if ok := c.Put(&l, symbol); ok != (size > 0) {
				t.Fatalf("Put(%d) of %v = %v", symbol, lengths, ok)
			}
			if size == 0 {
				continue
			}
			r := bits.NewLow(append(l.Out(), 0xff))
			left := r.Left()
			if got := c.Take(r); got != symbol {
				t.Errorf("Take of %v = %d, want %d", lengths, got, symbol)
			}
			wantLeft(t, "behind a word", r, left-size)
		}
	}
}

func TestManyInARow(t *testing.T) {
	for i, lengths := range codes() {
		c := must(t, lengths)
		d := dice(i)
		used := byLength(lengths)
		var l bits.Low
		var want []int
		for range 500 {
			want = append(want, used[d.below(len(used))])
			c.Put(&l, want[len(want)-1])
		}
		r := bits.NewLow(l.Out())
		left := r.Left()
		for k, symbol := range want {
			if got := c.Take(r); got != symbol {
				t.Fatalf("symbol %d in a row of %v = %d, want %d", k, lengths, got, symbol)
			}
			left -= lengths[symbol]
			wantLeft(t, "in a row", r, left)
		}
	}
}

func TestPutWritesTheFirstBitFirst(t *testing.T) {
	c := must(t, []int{2, 1, 3, 3})
	var l bits.Low
	text := ""
	for i, symbol := range []int{2, 0, 1, 3, 0, 2, 2, 1, 3} {
		if !c.Put(&l, symbol) {
			t.Fatalf("Put(%d) = false", symbol)
		}
		text += []string{"10", "0", "110", "111"}[symbol]
		if want := bytesOf(text); !bytes.Equal(l.Out(), want) {
			t.Fatalf("behind %d words: %x, want %x", i+1, l.Out(), want)
		}
	}
	var deep bits.Low
	must(t, deepest(15)).Put(&deep, 14)
	if want := []byte{0xff, 0x3f}; !bytes.Equal(deep.Out(), want) {
		t.Errorf("14 ones and a nought are %x, want %x", deep.Out(), want)
	}
}

func TestPutOfASymbolWithoutAWord(t *testing.T) {
	c := must(t, []int{2, 0, 1, 2})
	var l bits.Low
	l.Put(1, 3)
	for _, symbol := range []int{1, -1, 4, 320, math.MinInt, math.MaxInt} {
		if c.Put(&l, symbol) {
			t.Errorf("Put(%d) = true, want false", symbol)
		}
		l.Put(1, 1)
	}
	if want := bytesOf("100" + "111111"); !bytes.Equal(l.Out(), want) {
		t.Errorf("written: %x, want %x: a Put that answers false wrote bits", l.Out(), want)
	}
	if must(t, nil).Put(&l, 0) || must(t, []int{0, 1}).Put(&l, 0) {
		t.Error("Put of a symbol whose length is 0 = true")
	}
}

func TestPutToNothing(t *testing.T) {
	if must(t, []int{1, 1}).Put(nil, 0) {
		t.Error("Put to a nil Low = true, want false")
	}
}

func TestTakeWhereBitsEnd(t *testing.T) {
	c := must(t, []int{2, 1, 3, 3})
	for _, l := range []*bits.Low{nil, {}, bits.NewLow(nil)} {
		if got := panicOf(func() { c.Take(l) }); got != api.ErrShort {
			t.Errorf("Take of no bits: panic of %v, want %v", got, api.ErrShort)
		}
	}
	l := bits.NewLow([]byte{0})
	for range 8 {
		c.Take(l)
	}
	if got := panicOf(func() { c.Take(l) }); got != api.ErrShort {
		t.Errorf("Take behind the last bit: panic of %v, want %v", got, api.ErrShort)
	}
}

func TestTakeWhereBitsEndInTheMidstOfAWord(t *testing.T) {
	c := must(t, []int{2, 1, 3, 3})
	for _, text := range []string{"00000001", "00000011", "00010011", "11111111", "11011011"} {
		l := bits.NewLow(bytesOf(text))
		taken := 0
		got := panicOf(func() {
			for {
				c.Take(l)
				taken++
			}
		})
		words := strings.NewReplacer("111", "x", "110", "x", "10", "x", "0", "x")
		if want := strings.Count(words.Replace(text), "x"); taken != want || got != api.ErrShort {
			t.Errorf("%s: %d symbols and a panic of %v, want %d and %v", text, taken, got, want, api.ErrShort)
		}
	}
	deep := must(t, deepest(15))
	if got := panicOf(func() { deep.Take(bits.NewLow([]byte{0xff})) }); got != api.ErrShort {
		t.Errorf("8 of 15 bits: panic of %v, want %v", got, api.ErrShort)
	}
	l := bits.NewLow([]byte{0xff, 0xff})
	l.Take(2)
	if got := panicOf(func() { deep.Take(l) }); got != api.ErrShort {
		t.Errorf("14 of 15 bits: panic of %v, want %v", got, api.ErrShort)
	}
}

func TestTakeOfACodeOfNoWord(t *testing.T) {
	for _, lengths := range [][]int{nil, {0}, repeat(320, 0)} {
		c := must(t, lengths)
		for _, b := range [][]byte{nil, {0}, {1}, {0xff, 0xff, 0xff}} {
			l := bits.NewLow(b)
			if got := panicOf(func() { c.Take(l) }); got != api.ErrForm {
				t.Errorf("%d noughts: panic of %v, want %v", len(lengths), got, api.ErrForm)
			}
			wantLeft(t, "at once", l, 8*len(b))
		}
	}
}

func TestTakeOfACodeOfOneWord(t *testing.T) {
	c := must(t, []int{0, 0, 1})
	l := bits.NewLow(bytesOf("00010000"))
	for k := range 3 {
		if got := c.Take(l); got != 2 {
			t.Errorf("Take = %d, want 2", got)
		}
		wantLeft(t, "behind a 0", l, 7-k)
	}
	if got := panicOf(func() { c.Take(l) }); got != api.ErrForm {
		t.Errorf("a bit that is 1: panic of %v, want %v", got, api.ErrForm)
	}
	wantLeft(t, "behind a 1", l, 4)
	if got := c.Take(l); got != 2 {
		t.Errorf("behind the panic Take = %d, want 2", got)
	}
	if got := panicOf(func() { c.Take(bits.NewLow(nil)) }); got != api.ErrShort {
		t.Errorf("no bit: panic of %v, want %v", got, api.ErrShort)
	}
}

// TestTakeOfAWholeCodeNeverBreaks: every row of bits is words of it, to where bits end.
func TestTakeOfAWholeCodeNeverBreaks(t *testing.T) {
	d := dice(9)
	b := make([]byte, 400)
	for i := range b {
		b[i] = byte(d.below(256))
	}
	for _, lengths := range codes() {
		c := must(t, lengths)
		if len(byLength(lengths)) == 1 {
			continue
		}
		l := bits.NewLow(b)
		for l.Left() >= 15 {
			left := l.Left()
			symbol := c.Take(l)
			if symbol < 0 || symbol >= len(lengths) || lengths[symbol] != left-l.Left() {
				t.Fatalf("Take of %v = %d, %d bits read", lengths, symbol, left-l.Left())
			}
		}
	}
}

func TestTakingAndPuttingChangeNoCode(t *testing.T) {
	c := must(t, []int{2, 1, 3, 3})
	var l bits.Low
	for i := range 100 {
		c.Put(&l, i%6)
		panicOf(func() { c.Take(bits.NewLow([]byte{byte(i), 0xff})) })
	}
	wantTold(t, c, "10 0 110 111 -")
}

// TestNilCode: R7. Take may panic; it does, as a code of no word.
func TestNilCode(t *testing.T) {
	for _, c := range []*huff.Code{nil, {}} {
		if w, n, ok := c.Word(0); w != 0 || n != 0 || ok {
			t.Errorf("Word(0) = %d, %d, %v; want 0, 0, false", w, n, ok)
		}
		var l bits.Low
		if c.Put(&l, 0) || c.Put(nil, 0) || len(l.Out()) != 0 {
			t.Errorf("Put wrote %x", l.Out())
		}
		if got := panicOf(func() { c.Take(bits.NewLow([]byte{0})) }); got != api.ErrForm {
			t.Errorf("Take: panic of %v, want %v", got, api.ErrForm)
		}
	}
}
