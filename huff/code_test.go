package huff_test

import (
	"math"
	"slices"
	"strings"
	"testing"

	"engraver/api"
	"engraver/huff"
)

func wantWords(t *testing.T, lengths []int, want string) {
	t.Helper()
	wantTold(t, must(t, lengths), want)
}

func wantRefused(t *testing.T, lengths []int, want api.Errno) {
	t.Helper()
	if c, e := huff.New(lengths); c != nil || e != want {
		t.Errorf("New(%v) = %v, %v; want nil, %v", lengths, c, e, want)
	}
}

func TestWordsOfExamples(t *testing.T) {
	wantWords(t, []int{2, 1, 3, 3}, "10 0 110 111")
	wantWords(t, []int{3, 3, 3, 3, 3, 2, 4, 4}, "010 011 100 101 110 00 1110 1111") // RFC 1951's own
	wantWords(t, []int{1, 1}, "0 1")
	wantWords(t, []int{0, 2, 0, 2, 1, 0}, "- 10 - 11 0 -")
	wantWords(t, []int{2, 2, 2, 2}, "00 01 10 11")
	wantWords(t, []int{3, 3, 2, 1}, "110 111 10 0")
}

// fixed are the lengths of RFC 1951, 3.2.6.
func fixed() []int {
	return slices.Concat(repeat(144, 8), repeat(112, 9), repeat(24, 7), repeat(8, 8))
}

func TestWordsOfTheFixedCode(t *testing.T) {
	c := must(t, fixed())
	for symbol, want := range map[int]string{
		0: "00110000", 143: "10111111", 144: "110010000", 255: "111111111",
		256: "0000000", 279: "0010111", 280: "11000000", 287: "11000111", 288: "-",
	} {
		if got := told(c, symbol); got != want {
			t.Errorf("the word of %d is %s, want %s", symbol, got, want)
		}
	}
}

// TestWordsAreCanonical: RFC 1951, 3.2.2, says of which two words which is the lesser, and that makes them.
func TestWordsAreCanonical(t *testing.T) {
	for _, lengths := range codes() {
		c := must(t, lengths)
		next, size := 0, 0
		for _, i := range byLength(lengths) {
			next <<= lengths[i] - size
			size = lengths[i]
			if w, n, ok := c.Word(i); w != next || n != size || !ok {
				t.Fatalf("Word(%d) of %v = %d, %d, %v; want %d, %d, true", i, lengths, w, n, ok, next, size)
			}
			next++
		}
	}
}

// byLength answers the symbols that have words, by their lengths, then by themselves.
func byLength(lengths []int) []int {
	var out []int
	for i, n := range lengths {
		if n > 0 {
			out = append(out, i)
		}
	}
	slices.SortStableFunc(out, func(a, b int) int { return lengths[a] - lengths[b] })
	return out
}

func TestNoWordBeginsAnother(t *testing.T) {
	for _, lengths := range codes() {
		c := must(t, lengths)
		var all []string
		for i, n := range lengths {
			if w := told(c, i); n > 0 {
				all = append(all, w)
			} else if w != "-" {
				t.Errorf("symbol %d of %v has the word %s", i, lengths, w)
			}
		}
		slices.Sort(all) // what begins another stands just ahead of such a one
		for i := 1; i < len(all); i++ {
			if strings.HasPrefix(all[i], all[i-1]) {
				t.Errorf("of %v the word %s begins %s", lengths, all[i-1], all[i])
			}
		}
	}
}

func TestWordsOfFifteenBits(t *testing.T) {
	c := must(t, deepest(15))
	for i := range 15 {
		if want := strings.Repeat("1", i) + "0"; told(c, i) != want {
			t.Errorf("word %d is %s, want %s", i, told(c, i), want)
		}
	}
	if w, n, ok := c.Word(15); w != 1<<15-1 || n != 15 || !ok {
		t.Errorf("Word(15) = %d, %d, %v; want 32767, 15, true", w, n, ok)
	}
	many := append(deepest(7)[:7], repeat(256, 15)...)
	c = must(t, many)
	if w, n, _ := c.Word(7); w != 127<<8 || n != 15 {
		t.Errorf("the first of 256 words of 15 bits = %d, %d; want %d, 15", w, n, 127<<8)
	}
	if w, n, _ := c.Word(262); w != 1<<15-1 || n != 15 {
		t.Errorf("the last of 256 words of 15 bits = %d, %d; want 32767, 15", w, n)
	}
}

func TestALengthThatIsNone(t *testing.T) {
	for _, n := range []int{-1, 16, 17, 64, -16, math.MinInt, math.MaxInt} {
		wantRefused(t, []int{n}, api.ErrArg)
		wantRefused(t, []int{1, 1, n}, api.ErrArg)
		wantRefused(t, []int{n, 1, 1}, api.ErrArg)
		wantRefused(t, append(repeat(319, 0), n), api.ErrArg)
	}
	must(t, []int{0})
	must(t, append(deepest(15), 0))
}

func TestHowManyLengths(t *testing.T) {
	must(t, repeat(320, 0))
	wantRefused(t, repeat(321, 0), api.ErrArg)
	wantRefused(t, repeat(1<<16, 0), api.ErrArg)
	whole := append(repeat(192, 8), repeat(128, 9)...)
	c := must(t, whole)
	if got := told(c, 319); got != "111111111" {
		t.Errorf("the last of 320 words is %s", got)
	}
	wantRefused(t, append(whole, 0), api.ErrArg)
	must(t, append(repeat(319, 0), 1))
	wantRefused(t, append(repeat(320, 0), 1), api.ErrArg)
}

func TestTooManyWords(t *testing.T) {
	for _, lengths := range [][]int{
		{1, 1, 1}, {2, 2, 2, 2, 1}, {2, 1, 3, 3, 3}, {1, 1, 15}, {15, 1, 1}, {1, 2, 2, 2}, {2, 2, 2, 2, 2}, {1, 0, 1, 0, 1},
		repeat(320, 1), repeat(320, 8), append(deepest(15), 15), append(deepest(15), 1), append(fixed(), 9),
	} {
		wantRefused(t, lengths, api.ErrForm)
	}
}

func TestTooFewWords(t *testing.T) {
	for _, lengths := range [][]int{
		{1, 2}, {2, 2}, {2, 2, 2}, {1, 3, 3}, {2, 1, 3}, {1, 15}, {15, 15}, {0, 1, 0, 2},
		repeat(320, 9), repeat(320, 15), deepest(15)[:15], deepest(15)[1:], fixed()[:287],
	} {
		wantRefused(t, lengths, api.ErrForm)
	}
}

// TestOneWordMoreOrLess: a whole code is neither, and is so no more with any of its words left out or doubled.
func TestOneWordMoreOrLess(t *testing.T) {
	for _, lengths := range codes() {
		used := len(byLength(lengths))
		for i, n := range lengths {
			if n == 0 || used < 3 {
				continue
			}
			if len(lengths) < 320 {
				wantRefused(t, append(slices.Clone(lengths), n), api.ErrForm)
			}
			less := slices.Clone(lengths)
			less[i] = 0
			wantRefused(t, less, api.ErrForm)
		}
	}
}

func TestNoWord(t *testing.T) {
	for _, lengths := range [][]int{nil, {}, {0}, {0, 0}, repeat(320, 0)} {
		c := must(t, lengths)
		for i := range len(lengths) + 1 {
			if told(c, i) != "-" {
				t.Errorf("of %d noughts symbol %d has a word", len(lengths), i)
			}
		}
	}
}

func TestJustOneWord(t *testing.T) {
	wantWords(t, []int{1}, "0")
	wantWords(t, []int{0, 0, 1, 0}, "- - 0 -")
	for n := 2; n <= 15; n++ {
		wantRefused(t, []int{n}, api.ErrForm)
		wantRefused(t, []int{0, n, 0}, api.ErrForm)
	}
}

func TestTheErrorNamedFirst(t *testing.T) {
	wantRefused(t, []int{1, 1, 1, 16}, api.ErrArg)
	wantRefused(t, []int{1, 16, 1, 1}, api.ErrArg)
	wantRefused(t, []int{-1, 1, 1, 1}, api.ErrArg)
	wantRefused(t, []int{2, 2, -1}, api.ErrArg)
	wantRefused(t, repeat(321, 1), api.ErrArg)
	wantRefused(t, append(repeat(320, 0), 2), api.ErrArg)
}

func TestWordOfASymbolThatHasNone(t *testing.T) {
	c := must(t, []int{2, 0, 1, 2})
	for _, symbol := range []int{1, -1, 4, 5, 320, -320, math.MinInt, math.MaxInt} {
		if w, n, ok := c.Word(symbol); w != 0 || n != 0 || ok {
			t.Errorf("Word(%d) = %d, %d, %v; want 0, 0, false", symbol, w, n, ok)
		}
	}
}

// TestLengthsHandedInAreNotKept: R4, spare room included.
func TestLengthsHandedInAreNotKept(t *testing.T) {
	whole := []int{2, 1, 3, 3, 7, 7}
	lengths := whole[:4]
	c := must(t, lengths)
	wantRefused(t, whole[:5], api.ErrForm)
	if want := []int{2, 1, 3, 3, 7, 7}; !slices.Equal(whole, want) {
		t.Errorf("the lengths handed in are %v now, want %v", whole, want)
	}
	copy(whole, repeat(6, 1))
	wantTold(t, c, "10 0 110 111")
}

func TestCodesAreApart(t *testing.T) {
	a := must(t, []int{2, 1, 3, 3})
	b := must(t, []int{1, 1})
	*b = huff.Code{}
	if told(a, 0) != "10" || told(b, 0) != "-" {
		t.Errorf("words %s and %s, want 10 and none", told(a, 0), told(b, 0))
	}
}
