package inflate_test

import (
	"bytes"
	"fmt"
	"math"
	"slices"
	"testing"

	"engraver/api"
	"engraver/inflate"
)

// told is what a Machine tells now.
func told(m *inflate.Machine) answer { return answer{m.Out(), m.Used(), m.Err()} }

// wantWaiting asks that a Machine tells nothing yet.
func wantWaiting(t *testing.T, what any, m *inflate.Machine) {
	t.Helper()
	if m.Done() {
		t.Errorf("%v: it is Done", what)
	}
	wantAnswer(t, what, told(m), answer{})
}

// wantSliced steps through b by the sizes that next answers, and asks after each Step for what the chapter says: Done as soon as
// more bytes were asked for than are put out, and no sooner.
func wantSliced(t *testing.T, what any, b []byte, most int, next func() int) {
	t.Helper()
	want, put := byModel(b, most)
	m := inflate.New(b, most)
	wantWaiting(t, what, m)
	for asked := 0; asked <= put; {
		n := next()
		asked += n
		if got := m.Step(n); got != (asked > put) || m.Done() != got {
			t.Errorf("%v: Step(%d) = %v and Done() = %v, %d of %d bytes asked for", what, n, got, m.Done(), asked, put)
			return
		}
		if asked <= put {
			wantWaiting(t, what, m)
		}
	}
	wantAnswer(t, what, told(m), want)
}

func always(n int) func() int { return func() int { return n } }

func TestSlicesOfWholeStreams(t *testing.T) {
	for i, b := range samples(t) {
		for _, most := range []int{room, 300, 5, 1, 0} {
			for _, n := range []int{1, 2, 3, 7, 64, 255, 258, 1000, room} {
				wantSliced(t, fmt.Sprint("sample ", i, " most ", most, " by ", n), b, most, always(n))
			}
			d := dice(i)
			wantSliced(t, fmt.Sprint("sample ", i, " most ", most, " by any"), b, most, func() int { return 1 + d.below(40) })
		}
	}
}

func TestSlicesOfSpoiledStreams(t *testing.T) {
	d := dice(5)
	for i, b := range spoiled(t) {
		wantSliced(t, fmt.Sprint("stream ", i, " by 1"), b, 40, always(1))
		wantSliced(t, fmt.Sprint("stream ", i, " by any"), b, 400, func() int { return 1 + d.below(30) })
	}
}

// TestAStepStopsBehindItsLastByte: what breaks, or ends, behind that byte is met by the next Step.
func TestAStepStopsBehindItsLastByte(t *testing.T) {
	broken := answer{err: api.ErrForm}
	row := head(true, 1) + literals(9) + fixedRow(3, 1)
	for _, c := range []struct {
		what string
		b    []byte
		put  int
		want answer
	}{
		{"a symbol that is none", (head(true, 1) + literals(1, 2) + fixed(286)).bytes(), 2, broken},
		{"a distance too far", (head(true, 1) + literals(1, 2) + fixedRow(3, 3)).bytes(), 2, broken},
		{"a block of kind 3", append([]byte{0, 2, 0, 0xfd, 0xff, 8, 9}, 7), 2, broken},
		{"behind a row", (row + fixed(287)).bytes(), 4, broken},
		{"bits that end", row.bytes(), 4, answer{err: api.ErrShort}},
		{"a stored byte that is not there", []byte{1, 2, 0, 0xfd, 0xff, 8}, 1, answer{err: api.ErrShort}},
		{"an end", (row + fixed(256)).bytes(), 4, answer{[]byte{9, 9, 9, 9}, 4, api.OK}},
		{"the end of a stored block", []byte{1, 2, 0, 0xfd, 0xff, 8, 9}, 2, answer{[]byte{8, 9}, 7, api.OK}},
	} {
		for first := 1; first <= c.put; first++ {
			m := inflate.New(c.b, room)
			if m.Step(first) || first < c.put && m.Step(c.put-first) {
				t.Errorf("%s: it is Done ahead of the step behind %d bytes", c.what, c.put)
			}
			wantWaiting(t, c.what, m)
			if !m.Step(1) {
				t.Errorf("%s: it is not Done behind %d bytes and one more step", c.what, c.put)
			}
			wantAnswer(t, c.what, told(m), c.want)
		}
		m := inflate.New(c.b, room)
		if !m.Step(c.put + 1) {
			t.Errorf("%s: Step(%d) is not Done", c.what, c.put+1)
		}
		wantAnswer(t, c.what, told(m), c.want)
	}
}

// TestRoomInSlices: the byte that has no room is asked for by a step of its own.
func TestRoomInSlices(t *testing.T) {
	for _, b := range [][]byte{{1, 3, 0, 0xfc, 0xff, 7, 8, 9}, (head(true, 1) + literals(7, 8, 9)).bytes(), (head(true, 1) + literals(7) + fixedRow(4, 1)).bytes()} {
		for most := range 3 {
			m := inflate.New(b, most)
			for range most {
				if m.Step(1) {
					t.Errorf("%x: Done ahead of %d bytes", b, most)
				}
				wantWaiting(t, most, m)
			}
			if !m.Step(1) {
				t.Errorf("%x: not Done behind %d bytes", b, most)
			}
			wantAnswer(t, most, told(m), answer{err: api.ErrSize})
		}
	}
}

// TestStepsThatDoNothing: of 0 and below, anywhere.
func TestStepsThatDoNothing(t *testing.T) {
	for i, b := range samples(t) {
		want := all(b, room)
		m := inflate.New(b, room)
		for !m.Done() {
			for _, n := range []int{0, -1, -7, math.MinInt} {
				if m.Step(n) {
					t.Errorf("sample %d: Step(%d) = true", i, n)
				}
				wantWaiting(t, i, m)
			}
			m.Step(17)
		}
		wantAnswer(t, i, told(m), want)
	}
}

func TestStepsBehindTheEnd(t *testing.T) {
	for _, b := range append(samples(t), nil, []byte{7}, []byte{1, 2, 0, 0xfd, 0xff, 8}) {
		for _, most := range []int{room, 0, -1} {
			want := all(b, most)
			m := inflate.New(b, most)
			m.Step(math.MaxInt)
			for _, n := range []int{1, 0, -1, 100, math.MaxInt, math.MinInt} {
				if !m.Step(n) || !m.Done() {
					t.Errorf("%x: Step(%d) behind the end is not true", b, n)
				}
				wantAnswer(t, "behind the end", told(m), want)
			}
		}
	}
}

func TestMostBelow0(t *testing.T) {
	for _, most := range []int{-1, -100, math.MinInt} {
		for _, b := range [][]byte{nil, {3, 0}, {7}} {
			m := inflate.New(b, most)
			if !m.Done() {
				t.Errorf("most %d: it is not Done at once", most)
			}
			wantAnswer(t, most, told(m), answer{err: api.ErrArg})
			if !m.Step(0) || !m.Step(1) {
				t.Errorf("most %d: a Step is not true", most)
			}
		}
	}
}

// TestMachinesAreApart: two that read the same bytes, one ahead of the other.
func TestMachinesAreApart(t *testing.T) {
	b := (head(true, 1) + literals(1, 2, 3) + fixedRow(100, 3) + fixed(256)).bytes()
	want := all(b, room)
	one, other := inflate.New(b, room), inflate.New(b, room)
	for !one.Done() {
		one.Step(2)
		other.Step(1)
	}
	wantWaiting(t, "the other", other)
	other.Step(room)
	wantAnswer(t, "one", told(one), want)
	wantAnswer(t, "the other", told(other), want)
}

// TestBytesAreNotChanged: R4, spare room included.
func TestBytesAreNotChanged(t *testing.T) {
	for i, stream := range append(samples(t), []byte{7}, []byte{1, 2, 0, 0xfd, 0xff, 8}) {
		whole := slices.Concat(stream, []byte{1, 2, 3, 4})
		before := slices.Clone(whole)
		b := whole[:len(stream)]
		scribble(all(b, room).out)
		m := inflate.New(b, room)
		for !m.Step(3) {
		}
		scribble(m.Out())
		if !bytes.Equal(whole, before) {
			t.Errorf("sample %d: the bytes handed in were changed", i)
		}
	}
}

// TestBytesAreNotKept: R4: a Machine goes on as if they had not been changed meanwhile.
func TestBytesAreNotKept(t *testing.T) {
	for i, stream := range samples(t) {
		want := all(stream, room)
		b := slices.Clone(stream)
		m := inflate.New(b, room)
		scribble(b)
		for !m.Step(5) {
			scribble(b)
		}
		wantAnswer(t, i, told(m), want)
	}
}

// scribble writes over a list, its spare room too.
func scribble(b []byte) {
	b = b[:cap(b)]
	for i := range b {
		b[i] ^= 0x5a
	}
}

// TestAnswersAreNewMemory: R4: who writes into one changes no other.
func TestAnswersAreNewMemory(t *testing.T) {
	for i, b := range samples(t) {
		want := all(b, room)
		want.out = slices.Clone(want.out)
		m := inflate.New(b, room)
		for !m.Step(9) {
		}
		first, second := m.Out(), m.Out()
		scribble(first)
		if !bytes.Equal(second, want.out) {
			t.Errorf("sample %d: two answers of Out share memory", i)
		}
		wantAnswer(t, i, told(m), want)
		scribble(all(b, room).out)
		wantAnswer(t, i, all(b, room), want)
	}
}

// TestNilMachine: R7.
func TestNilMachine(t *testing.T) {
	var m *inflate.Machine
	for _, n := range []int{0, 1, -1, math.MaxInt} {
		if m.Step(n) || m.Done() {
			t.Errorf("Step(%d) or Done() of nil is true", n)
		}
	}
	wantAnswer(t, "nil", told(m), answer{err: api.ErrArg})
}

// TestZeroMachine is none that New made: it does not panic, and is short.
func TestZeroMachine(t *testing.T) {
	m := &inflate.Machine{}
	wantWaiting(t, "zero", m)
	if !m.Step(1) {
		t.Error("Step(1) of a zero Machine is not Done")
	}
	wantAnswer(t, "zero", told(m), answer{err: api.ErrShort})
}
