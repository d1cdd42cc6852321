package huff_test

import (
	"fmt"
	"math"
	"slices"
	"testing"

	"engraver/api"
	"engraver/huff"
)

// fibonacci are frequencies whose code would have a word of n-1 bits if no most were said.
func fibonacci(n int) []int {
	out := []int{1, 1}
	for len(out) < n {
		out = append(out, out[len(out)-1]+out[len(out)-2])
	}
	return out[:n]
}

// frequencies are of many kinds: all the same, growing in many ways, of no kind, with noughts among them.
func frequencies() [][]int {
	var out [][]int
	d := dice(3)
	for _, n := range []int{2, 3, 4, 5, 7, 8, 9, 16, 17, 19, 30, 31, 32, 33, 100, 255, 256, 257, 286, 319, 320} {
		rising, noise, few, spread, gaps := make([]int, n), make([]int, n), make([]int, n), make([]int, n), make([]int, n)
		for i := range n {
			rising[i] = i + 1
			noise[i] = 1 + d.below(1<<20)
			few[i] = 1 + d.below(3)
			spread[i] = 1 << d.below(21)
			gaps[i] = d.below(2) * d.below(1000)
		}
		steep := repeat(n, 1)
		steep[n/2] = 1 << 20
		down := slices.Clone(rising)
		slices.Reverse(down)
		out = append(out, repeat(n, 1), repeat(n, 1<<20), rising, down, noise, few, spread, gaps, steep)
	}
	for n := 2; n <= 30; n++ {
		out = append(out, fibonacci(n))
	}
	twofold := make([]int, 21)
	for i := range twofold {
		twofold[i] = 1 << i
	}
	return append(out, twofold, append(fibonacci(30), repeat(290, 0)...), append(fibonacci(30), repeat(290, 1)...))
}

func countUsed(freq []int) int {
	n := 0
	for _, f := range freq {
		if f > 0 {
			n++
		}
	}
	return n
}

func wantLengths(t *testing.T, freq []int, most int, want []int) {
	t.Helper()
	if got, ok := huff.Lengths(freq, most); !slices.Equal(got, want) || !ok {
		t.Errorf("Lengths(%v, %d) = %v, %v; want %v, true", freq, most, got, ok, want)
	}
}

func wantNoLengths(t *testing.T, freq []int, most int) {
	t.Helper()
	if got, ok := huff.Lengths(freq, most); len(got) != 0 || ok {
		t.Errorf("Lengths of %d frequencies, %d = %v, %v; want none, false", len(freq), most, got, ok)
	}
}

// mayStand says of lengths what the chapter promises of them.
func mayStand(freq, lengths []int, most int) error {
	if len(lengths) != len(freq) {
		return fmt.Errorf("%d lengths of %d frequencies", len(lengths), len(freq))
	}
	for i, n := range lengths {
		if n < 0 || n > most || (n > 0) != (freq[i] > 0) {
			return fmt.Errorf("symbol %d of frequency %d has length %d", i, freq[i], n)
		}
		for k, m := range lengths {
			if freq[i] > freq[k] && freq[k] > 0 && n > m {
				return fmt.Errorf("symbol %d is more frequent than %d, but longer: %d and %d", i, k, n, m)
			}
		}
	}
	if c, e := huff.New(lengths); c == nil || e != api.OK {
		return fmt.Errorf("New(%v) = %v", lengths, e)
	}
	return nil
}

func TestLengthsOfManyKinds(t *testing.T) {
	for _, freq := range frequencies() {
		used := countUsed(freq)
		for most := 1; most <= 15; most++ {
			lengths, ok := huff.Lengths(freq, most)
			if ok != (used <= 1<<most) {
				t.Fatalf("%d symbols in %d bits: %v", used, most, ok)
			}
			if !ok {
				wantNoLengths(t, freq, most)
				continue
			}
			if err := mayStand(freq, lengths, most); err != nil {
				t.Fatalf("most %d, %v: %v", most, freq, err)
			}
		}
	}
}

// TestLengthsThatMostHoldsBack: without it the rarest of these would have words of 24 bits.
func TestLengthsThatMostHoldsBack(t *testing.T) {
	freq := fibonacci(25)
	for most := 5; most <= 15; most++ {
		lengths, ok := huff.Lengths(freq, most)
		if !ok || slices.Max(lengths) != most {
			t.Errorf("Lengths in %d bits = %v, %v; want some of %d bits", most, lengths, ok, most)
		}
	}
	wantNoLengths(t, freq, 4)
}

func TestLengthsByHand(t *testing.T) {
	wantLengths(t, []int{3, 9}, 15, []int{1, 1})
	wantLengths(t, []int{2, 4, 1, 1}, 15, []int{2, 1, 3, 3})
	wantLengths(t, []int{2, 4, 1, 1}, 3, []int{2, 1, 3, 3})
	wantLengths(t, []int{2, 4, 1, 1}, 2, []int{2, 2, 2, 2})
	wantLengths(t, []int{0, 8, 0, 1, 1}, 9, []int{0, 1, 0, 2, 2})
	wantLengths(t, []int{1, 1, 2, 4, 8, 16}, 4, []int{4, 4, 4, 4, 2, 1})
	wantLengths(t, []int{1, 1, 2, 4, 8, 16}, 5, []int{5, 5, 4, 3, 2, 1})
}

func TestLengthsOfOneSymbolAndOfNone(t *testing.T) {
	for most := 1; most <= 15; most++ {
		for _, f := range []int{1, 2, 77, 1 << 20} {
			wantLengths(t, []int{f}, most, []int{1})
			wantLengths(t, []int{0, 0, f, 0}, most, []int{0, 0, 1, 0})
		}
		wantLengths(t, append(repeat(319, 0), 5), most, append(repeat(319, 0), 1))
		wantLengths(t, nil, most, nil)
		wantLengths(t, []int{0}, most, []int{0})
		wantLengths(t, repeat(320, 0), most, repeat(320, 0))
	}
}

func TestAsManySymbolsAsThereAreWords(t *testing.T) {
	for most := 1; most <= 8; most++ {
		n := 1 << most
		for _, freq := range [][]int{repeat(n, 1), append(repeat(n-1, 1), 1<<20), fibonacci(min(n, 30))} {
			if len(freq) == n {
				wantLengths(t, freq, most, repeat(n, most))
			}
		}
		wantNoLengths(t, repeat(n+1, 1), most)
		wantNoLengths(t, append(repeat(20, 0), repeat(n+1, 5)...), most)
		wantLengths(t, append(repeat(20, 0), repeat(n, 5)...), most, append(repeat(20, 0), repeat(n, most)...))
	}
	for most := 9; most <= 15; most++ {
		if _, ok := huff.Lengths(repeat(320, 1), most); !ok {
			t.Errorf("320 symbols do not go into words of %d bits", most)
		}
	}
}

func TestMostThatIsNone(t *testing.T) {
	for _, most := range []int{0, 16, -1, 17, 63, 64, math.MinInt, math.MaxInt} {
		for _, freq := range [][]int{nil, {0}, {1}, {1, 1}, repeat(320, 1)} {
			wantNoLengths(t, freq, most)
		}
	}
	wantLengths(t, []int{1, 2}, 1, []int{1, 1})
	wantLengths(t, []int{1, 2}, 15, []int{1, 1})
}

func TestHowManyFrequencies(t *testing.T) {
	wantNoLengths(t, repeat(321, 0), 15)
	wantNoLengths(t, repeat(321, 1), 15)
	wantNoLengths(t, append([]int{1, 1}, repeat(319, 0)...), 15)
	lengths, ok := huff.Lengths(repeat(320, 1), 9)
	if !ok {
		t.Fatal("320 frequencies are refused")
	}
	if err := mayStand(repeat(320, 1), lengths, 9); err != nil {
		t.Error(err)
	}
}

func TestFrequenciesAtTheirLimits(t *testing.T) {
	wantLengths(t, []int{1 << 20, 0, 1 << 20}, 15, []int{1, 0, 1})
	for _, f := range []int{-1, 1<<20 + 1, 1 << 40, math.MinInt, math.MaxInt} {
		wantNoLengths(t, []int{f}, 15)
		wantNoLengths(t, []int{1, f, 1}, 15)
		wantNoLengths(t, []int{f, 0}, 15)
		wantNoLengths(t, append(repeat(319, 1), f), 15)
	}
}

// TestNoShorterLengths: for few symbols all lengths that may be are tried.
func TestNoShorterLengths(t *testing.T) {
	d := dice(5)
	for range 150 {
		freq := make([]int, 2+d.below(5))
		for i := range freq {
			freq[i] = 1 << d.below(12)
		}
		for most := 3; most <= 5; most++ {
			got, _ := huff.Lengths(freq, most)
			if best := leastBits(freq, most); bitsOf(freq, got) != best {
				t.Errorf("Lengths(%v, %d) = %v: %d bits, but %d may be", freq, most, got, bitsOf(freq, got), best)
			}
		}
	}
}

func bitsOf(freq, lengths []int) int {
	sum := 0
	for i, f := range freq {
		sum += f * lengths[i]
	}
	return sum
}

func leastBits(freq []int, most int) int {
	best := math.MaxInt
	lengths := make([]int, len(freq))
	var lay func(at, free int)
	lay = func(at, free int) {
		if at == len(freq) {
			best = min(best, bitsOf(freq, lengths))
			return
		}
		for n := 1; n <= most; n++ {
			if room := 1 << (most - n); room <= free {
				lengths[at] = n
				lay(at+1, free-room)
			}
		}
	}
	lay(0, 1<<most)
	return best
}

// TestFrequenciesHandedInAreNotKept: R4, spare room included.
func TestFrequenciesHandedInAreNotKept(t *testing.T) {
	whole := []int{9, 4, 4, 1, 7, 7}
	first, _ := huff.Lengths(whole[:4], 15)
	kept := slices.Clone(first)
	if want := []int{9, 4, 4, 1, 7, 7}; !slices.Equal(whole, want) {
		t.Errorf("the frequencies handed in are %v now, want %v", whole, want)
	}
	copy(whole, repeat(6, 3))
	if !slices.Equal(first, kept) {
		t.Errorf("with the frequencies changed the lengths are %v, were %v", first, kept)
	}
}

func TestLengthsAreNewMemory(t *testing.T) {
	for _, freq := range [][]int{{9, 4, 4, 1}, {0, 5}, {0, 0}} {
		first, _ := huff.Lengths(freq, 15)
		second, _ := huff.Lengths(freq, 15)
		kept := slices.Clone(second)
		all := first[:cap(first)]
		for i := range all {
			all[i] = 99
		}
		if !slices.Equal(second, kept) {
			t.Errorf("two answers of %v share memory", freq)
		}
		wantLengths(t, freq, 15, kept)
	}
}
