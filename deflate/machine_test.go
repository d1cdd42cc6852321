package deflate_test

import (
	"bytes"
	"fmt"
	"math"
	"slices"
	"testing"

	"engraver/deflate"
)

// wantWaiting asks that a Machine is not Done, and tells nothing.
func wantWaiting(t *testing.T, what any, m *deflate.Machine) {
	t.Helper()
	if m.Done() || len(m.Out()) != 0 {
		t.Errorf("%v: Done() = %v ahead of the end, with %d bytes", what, m.Done(), len(m.Out()))
	}
}

// wantDone asks that it is Done, and tells just that.
func wantDone(t *testing.T, what any, m *deflate.Machine, want []byte) {
	t.Helper()
	if out := m.Out(); !m.Done() || !bytes.Equal(out, want) {
		t.Errorf("%v: Done() = %v, with %d bytes, want %d", what, m.Done(), len(out), len(want))
	}
}

// wantSliced steps through b by the sizes that next answers: it is Done with the step that takes the last byte, and no sooner.
func wantSliced(t *testing.T, what any, b []byte, next func() int) {
	t.Helper()
	m := deflate.New(b)
	wantWaiting(t, what, m)
	for asked := 0; asked < max(len(b), 1); {
		n := next()
		asked += n
		end := asked >= len(b)
		if got := m.Step(n); got != end || m.Done() != got {
			t.Errorf("%v: Step(%d) = %v and Done() = %v, %d of %d bytes asked for", what, n, got, m.Done(), asked, len(b))
			return
		}
		if !end && len(m.Out()) != 0 {
			t.Errorf("%v: %d bytes are out ahead of the end", what, len(m.Out()))
		}
	}
	wantDone(t, what, m, deflate.All(b))
}

func always(n int) func() int { return func() int { return n } }

func TestSlices(t *testing.T) {
	for i, b := range samples() {
		for _, n := range []int{1, 2, 3, 4, 7, 50, 257, 258, 259, 1000, 1 << 20} {
			wantSliced(t, fmt.Sprint("sample ", i, " by ", n), b, always(n))
		}
		for _, n := range []int{len(b) - 1, len(b), len(b) + 1} {
			wantSliced(t, fmt.Sprint("sample ", i, " by ", n), b, always(max(n, 1)))
		}
		d := dice(i)
		wantSliced(t, fmt.Sprint("sample ", i, " by any"), b, func() int { return 1 + d.below(400) })
	}
}

// TestSlicesOfManyBlocks: also where a slice ends with a block, or beside its end.
func TestSlicesOfManyBlocks(t *testing.T) {
	for i, b := range [][]byte{mixed(1, 150000), noise(2, 3*block+5, 256), noise(3, 2*block, 3), text(2*block + 1), make([]byte, 3*block)} {
		for _, n := range []int{1, 257, 1000, block - 1, block, block + 1, 2 * block} {
			wantSliced(t, fmt.Sprint(i, " by ", n), b, always(n))
		}
	}
}

func TestSlicesUpToTheLimit(t *testing.T) {
	b := noise(1, limit, 5)
	for _, n := range []int{100000, limit - 1, limit, math.MaxInt} {
		m := deflate.New(b)
		wantWaiting(t, n, m)
		for steps := (limit-1)/n + 1; steps > 0; steps-- {
			if got := m.Step(n); got != (steps == 1) {
				t.Errorf("by %d: Step = %v, %d steps ahead of the end", n, got, steps-1)
			}
		}
		wantBack(t, n, m.Out(), b)
	}
}

// TestAGreatStepBehindASmallOne: so many bytes and those taken in would wrap round.
func TestAGreatStepBehindASmallOne(t *testing.T) {
	for i, b := range samples()[3:] {
		m := deflate.New(b)
		m.Step(1)
		wantWaiting(t, i, m)
		if !m.Step(math.MaxInt) {
			t.Errorf("sample %d: a step of all bytes is not Done", i)
		}
		wantDone(t, i, m, deflate.All(b))
	}
}

// TestTheLastByteIsTakenByTheLastStep: also where a row told it already.
func TestTheLastByteIsTakenByTheLastStep(t *testing.T) {
	for _, n := range []int{1, 2, 3, 4, 100, 259, 260, 1000, block, block + 1} {
		m := deflate.New(make([]byte, n))
		if n > 1 && m.Step(n-1) {
			t.Errorf("%d bytes: it is Done ahead of the last one", n)
		}
		wantWaiting(t, n, m)
		if !m.Step(1) {
			t.Errorf("%d bytes: it is not Done with the last one", n)
		}
		wantDone(t, n, m, deflate.All(make([]byte, n)))
	}
}

// TestStepsThatTakeNothing: of 0 and below, anywhere.
func TestStepsThatTakeNothing(t *testing.T) {
	for i, b := range samples() {
		m := deflate.New(b)
		for taken := 0; !m.Done(); taken += 17 {
			for _, n := range []int{0, -1, -7, math.MinInt} {
				if m.Step(n) {
					t.Errorf("sample %d: Step(%d) = true", i, n)
				}
				wantWaiting(t, i, m)
			}
			if got := m.Step(17); got != (taken+17 >= len(b)) {
				t.Errorf("sample %d: Step(17) = %v behind %d of %d", i, got, taken, len(b))
			}
		}
		wantDone(t, i, m, deflate.All(b))
	}
}

func TestNoBytes(t *testing.T) {
	for _, b := range [][]byte{nil, {}} {
		for _, n := range []int{1, 2, 100, math.MaxInt} {
			m := deflate.New(b)
			wantWaiting(t, "none", m)
			for _, below := range []int{0, -1, math.MinInt} {
				if m.Step(below) {
					t.Errorf("no bytes: Step(%d) = true", below)
				}
				wantWaiting(t, "none", m)
			}
			if !m.Step(n) {
				t.Errorf("no bytes: Step(%d) = false", n)
			}
			wantDone(t, "none", m, deflate.All(nil))
			wantBack(t, "none", m.Out(), nil)
		}
	}
}

func TestStepsBehindTheEnd(t *testing.T) {
	for i, b := range samples() {
		want := deflate.All(b)
		m := deflate.New(b)
		m.Step(math.MaxInt)
		for _, n := range []int{1, 0, -1, 100, math.MaxInt, math.MinInt} {
			if !m.Step(n) {
				t.Errorf("sample %d: Step(%d) behind the end is not true", i, n)
			}
			wantDone(t, i, m, want)
		}
	}
}

func TestAMachineOfTooManyBytes(t *testing.T) {
	for _, size := range []int{limit + 1, 2 * limit} {
		m := deflate.New(make([]byte, size))
		wantDone(t, size, m, nil)
		for _, n := range []int{0, -1, 1, math.MaxInt, math.MinInt} {
			if !m.Step(n) {
				t.Errorf("%d bytes: Step(%d) = false", size, n)
			}
			wantDone(t, size, m, nil)
		}
	}
}

// TestMachinesAreApart: several at once, at different places, and All between.
func TestMachinesAreApart(t *testing.T) {
	list := samples()
	var machines []*deflate.Machine
	for _, b := range list {
		machines = append(machines, deflate.New(b))
	}
	for round := range 3000 {
		for i, m := range machines {
			m.Step(1 + (i+round)%5)
		}
	}
	other := deflate.New(text(1000))
	other.Step(500)
	for i, m := range machines {
		m.Step(math.MaxInt)
		wantDone(t, i, m, deflate.All(list[i]))
	}
	wantWaiting(t, "the other", other)
	other.Step(500)
	wantDone(t, "the other", other, deflate.All(text(1000)))
}

// TestBytesAreNotChanged: R4, spare room included.
func TestBytesAreNotChanged(t *testing.T) {
	for i, b := range append(samples(), noise(1, limit+1, 256)) {
		whole := slices.Concat(b, []byte{1, 2, 3, 4})
		before := slices.Clone(whole)
		scribble(deflate.All(whole[:len(b)]))
		m := deflate.New(whole[:len(b)])
		for !m.Step(300) {
		}
		scribble(m.Out())
		if !bytes.Equal(whole, before) {
			t.Errorf("sample %d: the bytes handed in were changed", i)
		}
	}
}

// TestBytesAreNotKept: R4: a Machine goes on as if they had not been changed meanwhile.
func TestBytesAreNotKept(t *testing.T) {
	for i, b := range samples() {
		want := deflate.All(b)
		given := slices.Clone(b)
		m := deflate.New(given)
		scribble(given)
		for !m.Step(5) {
			scribble(given)
		}
		wantDone(t, i, m, want)
	}
}

// TestAnswersAreNewMemory: R4: who writes into one changes no other.
func TestAnswersAreNewMemory(t *testing.T) {
	for i, b := range samples() {
		want := slices.Clone(deflate.All(b))
		m := deflate.New(b)
		m.Step(len(b) + 1)
		first, second := m.Out(), m.Out()
		scribble(first)
		if !bytes.Equal(second, want) {
			t.Errorf("sample %d: two answers of Out share memory", i)
		}
		wantDone(t, i, m, want)
		scribble(deflate.All(b))
		if !bytes.Equal(deflate.All(b), want) {
			t.Errorf("sample %d: an answer of All is kept", i)
		}
	}
}

// TestNilMachine: R7.
func TestNilMachine(t *testing.T) {
	var m *deflate.Machine
	for _, n := range []int{0, 1, -1, math.MaxInt} {
		if m.Step(n) {
			t.Errorf("Step(%d) of nil is true", n)
		}
		wantWaiting(t, "nil", m)
	}
}

// TestZeroMachine is none that New made: it does not panic, and is one of no bytes.
func TestZeroMachine(t *testing.T) {
	m := &deflate.Machine{}
	wantWaiting(t, "zero", m)
	if !m.Step(1) {
		t.Error("Step(1) of a zero Machine is not Done")
	}
	wantDone(t, "zero", m, deflate.All(nil))
}
