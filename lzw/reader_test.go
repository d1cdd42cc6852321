package lzw_test

import (
	"bytes"
	"fmt"
	"math"
	"slices"
	"testing"

	"engraver/api"
	"engraver/lzw"
)

// told is what a Reader tells now.
func told(r *lzw.Reader) answer { return answer{r.Out(), r.Err()} }

// wantWaiting asks that a Reader tells nothing yet.
func wantWaiting(t *testing.T, what any, r *lzw.Reader) {
	t.Helper()
	if r.Done() {
		t.Errorf("%v: it is Done", what)
	}
	wantAnswer(t, what, told(r), answer{})
}

// wantSliced steps through codes by the sizes that next answers, and asks after each Step for what the chapter says: Done as
// soon as more bytes were asked for than are put out, and no sooner.
func wantSliced(t *testing.T, what any, s sample, most int, next func() int) {
	t.Helper()
	want, put := byModel(s.b, s.size, most)
	r := lzw.NewReader(s.b, s.size, most)
	wantWaiting(t, what, r)
	for asked := 0; asked <= put; {
		n := next()
		asked += n
		if got := r.Step(n); got != (asked > put) || r.Done() != got {
			t.Errorf("%v: Step(%d) = %v and Done() = %v, %d of %d bytes asked for", what, n, got, r.Done(), asked, put)
			return
		}
		if asked <= put {
			wantWaiting(t, what, r)
		}
	}
	wantAnswer(t, what, told(r), want)
}

func always(n int) func() int { return func() int { return n } }

// broken are samples that were cut, or have a byte that is another.
func broken() []sample {
	var out []sample
	d := dice(3)
	for _, s := range samples() {
		b := slices.Clone(s.b)
		b[d.below(len(b))] ^= byte(1 + d.below(255))
		out = append(out, sample{s.size, b}, sample{s.size, s.b[:d.below(len(s.b))]})
	}
	return append(out, sample{2, nil})
}

func TestSlices(t *testing.T) {
	for i, s := range append(samples(), broken()...) {
		for _, most := range []int{room, 300, 7, 1, 0} {
			for _, n := range []int{1, 2, 3, 5, 8, 64, 700, room} {
				wantSliced(t, fmt.Sprint("sample ", i, " most ", most, " by ", n), s, most, always(n))
			}
			d := dice(i)
			wantSliced(t, fmt.Sprint("sample ", i, " most ", most, " by any"), s, most, func() int { return 1 + d.below(40) })
		}
	}
}

// TestSlicesOfAFullTable: also where a slice ends in the midst of a row.
func TestSlicesOfAFullTable(t *testing.T) {
	d := dice(1)
	for size := 2; size <= 8; size += 3 {
		s := sample{size, coded(size, anyCodes(&d, size, 5000)...)}
		for _, n := range []int{1, 3, 1000} {
			wantSliced(t, fmt.Sprint("size ", size, " by ", n), s, room, always(n))
		}
	}
}

// TestAStepStopsBehindItsLastByte: what breaks, or ends, behind that byte is met by the next Step.
func TestAStepStopsBehindItsLastByte(t *testing.T) {
	for _, c := range []struct {
		what string
		b    []byte
		most int
		put  int
		want answer
	}{
		{"End", coded(2, 4, 1, 6, 2, 5), room, 4, answer{out: []byte{1, 1, 1, 2}}},
		{"End behind a row", coded(2, 1, 6, 5), 3, 3, answer{out: []byte{1, 1, 1}}},
		{"a Clear and End", coded(2, 1, 4, 4, 5), room, 1, answer{out: []byte{1}}},
		{"a code too great", coded(2, 1, 7), room, 1, answer{err: api.ErrForm}},
		{"a code too great behind a row", coded(2, 1, 6, 3, 12), room, 4, answer{err: api.ErrForm}},
		{"no value behind a Clear", coded(2, 1, 2, 4, 7), room, 2, answer{err: api.ErrForm}},
		{"bits that end", taped(2, 1, 6)[:6].bytes()[:1], room, 3, answer{err: api.ErrShort}},
		{"no room for a value", coded(2, 1, 2, 5), 1, 1, answer{err: api.ErrSize}},
		{"no room for a row", coded(2, 1, 6, 5), 1, 1, answer{err: api.ErrSize}},
		{"no room for a row's last value", coded(2, 1, 6, 5), 2, 2, answer{err: api.ErrSize}},
	} {
		for first := 1; first <= c.put; first++ {
			r := lzw.NewReader(c.b, 2, c.most)
			if r.Step(first) || first < c.put && r.Step(c.put-first) {
				t.Errorf("%s: it is Done ahead of the step behind %d bytes", c.what, c.put)
			}
			wantWaiting(t, c.what, r)
			if !r.Step(1) {
				t.Errorf("%s: it is not Done behind %d bytes and one more step", c.what, c.put)
			}
			wantAnswer(t, c.what, told(r), c.want)
		}
	}
}

// TestStepsThatDoNothing: of 0 and below, anywhere.
func TestStepsThatDoNothing(t *testing.T) {
	for i, s := range samples() {
		r := lzw.NewReader(s.b, s.size, room)
		for !r.Done() {
			for _, n := range []int{0, -1, -7, math.MinInt} {
				if r.Step(n) {
					t.Errorf("sample %d: Step(%d) = true", i, n)
				}
				wantWaiting(t, i, r)
			}
			r.Step(17)
		}
		wantAnswer(t, i, told(r), read(s.b, s.size, room))
	}
}

func TestStepsBehindTheEnd(t *testing.T) {
	for i, s := range append(samples(), broken()...) {
		for _, most := range []int{room, 0, -1} {
			want := read(s.b, s.size, most)
			r := lzw.NewReader(s.b, s.size, most)
			r.Step(math.MaxInt)
			for _, n := range []int{1, 0, -1, 100, math.MaxInt, math.MinInt} {
				if !r.Step(n) || !r.Done() {
					t.Errorf("sample %d: Step(%d) behind the end is not true", i, n)
				}
				wantAnswer(t, i, told(r), want)
			}
		}
	}
}

// TestReadersThatMayNotBe are Done at once.
func TestReadersThatMayNotBe(t *testing.T) {
	for _, c := range [][2]int{{1, 9}, {0, 9}, {-1, 9}, {math.MinInt, 9}, {9, 9}, {math.MaxInt, 9}, {2, -1}, {8, -1}, {5, math.MinInt}, {1, -1}} {
		for _, b := range [][]byte{nil, {0x8c, 0x0a}, {0xff}} {
			r := lzw.NewReader(b, c[0], c[1])
			if !r.Done() {
				t.Errorf("size %d most %d: it is not Done at once", c[0], c[1])
			}
			wantAnswer(t, c, told(r), answer{err: api.ErrArg})
			if !r.Step(0) || !r.Step(1) || !r.Step(-1) {
				t.Errorf("size %d most %d: a Step is not true", c[0], c[1])
			}
			wantAnswer(t, c, told(r), answer{err: api.ErrArg})
		}
	}
}

// TestReadersAreApart: two of the same bytes, one ahead of the other.
func TestReadersAreApart(t *testing.T) {
	for i, s := range samples() {
		want := read(s.b, s.size, room)
		one, other := lzw.NewReader(s.b, s.size, room), lzw.NewReader(s.b, s.size, room)
		for !one.Done() {
			one.Step(2)
			other.Step(1)
		}
		other.Step(room)
		wantAnswer(t, i, told(one), want)
		wantAnswer(t, i, told(other), want)
	}
}

// TestAReaderChangesNothing: R4, spare room included.
func TestAReaderChangesNothing(t *testing.T) {
	for i, s := range append(samples(), broken()...) {
		wantUntouched(t, i, s.b, func(b []byte) {
			r := lzw.NewReader(b, s.size, room)
			for !r.Step(3) {
			}
			scribble(r.Out())
		})
	}
}

// TestAReaderKeepsNothing: R4: it goes on as if the bytes had not been changed meanwhile.
func TestAReaderKeepsNothing(t *testing.T) {
	for i, s := range samples() {
		want := read(s.b, s.size, room)
		b := slices.Clone(s.b)
		r := lzw.NewReader(b, s.size, room)
		scribble(b)
		for !r.Step(5) {
			scribble(b)
		}
		wantAnswer(t, i, told(r), want)
	}
}

// TestOutIsNewMemory: R4: who writes into one answer changes no other.
func TestOutIsNewMemory(t *testing.T) {
	for i, s := range samples() {
		want := read(s.b, s.size, room)
		r := lzw.NewReader(s.b, s.size, room)
		for !r.Step(9) {
		}
		first, second := r.Out(), r.Out()
		scribble(first)
		if !bytes.Equal(second, want.out) {
			t.Errorf("sample %d: two answers of Out share memory", i)
		}
		wantAnswer(t, i, told(r), want)
	}
}

// TestNilReader: R7.
func TestNilReader(t *testing.T) {
	var r *lzw.Reader
	for _, n := range []int{0, 1, -1, math.MaxInt} {
		if r.Step(n) || r.Done() {
			t.Errorf("Step(%d) or Done() of nil is true", n)
		}
	}
	wantAnswer(t, "nil", told(r), answer{err: api.ErrArg})
}

// TestZeroReader is none that NewReader made: it does not panic, and is short.
func TestZeroReader(t *testing.T) {
	r := &lzw.Reader{}
	wantWaiting(t, "zero", r)
	if !r.Step(1) {
		t.Error("Step(1) of a zero Reader is not Done")
	}
	wantAnswer(t, "zero", told(r), answer{err: api.ErrShort})
}
