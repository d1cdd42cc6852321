package huff_test

import (
	"fmt"
	"strings"
	"testing"

	"engraver/api"
	"engraver/bits"
	"engraver/huff"
)

// dice answers numbers that look like none in particular, the same ones for the same start.
type dice uint32

func (d *dice) below(n int) int {
	*d = *d*1664525 + 1013904223
	return int(uint32(*d)>>8) % n
}

// repeat answers n numbers that are all x.
func repeat(n, x int) []int {
	out := make([]int, n)
	for i := range out {
		out[i] = x
	}
	return out
}

// deepest are lengths of a code whose words have 1, 2 and so on up to n bits, two of them n.
func deepest(n int) []int {
	var out []int
	for i := 1; i <= n; i++ {
		out = append(out, i)
	}
	return append(out, n)
}

// grown answers lengths of a whole code of n symbols: one word after another is split in two, none beyond most bits;
// then gaps are symbols without a word laid between.
func grown(d *dice, n, most, gaps int) []int {
	out := []int{1, 1}
	for len(out) < n {
		i := d.below(len(out))
		if out[i] < most {
			out[i]++
			out = append(out, out[i])
		}
	}
	out = append(out, repeat(gaps, 0)...)
	for i := range out {
		j := d.below(i + 1)
		out[i], out[j] = out[j], out[i]
	}
	return out
}

// codes are lengths of codes of all kinds that New takes.
func codes() [][]int {
	out := [][]int{{2, 1, 3, 3}, {3, 3, 3, 3, 3, 2, 4, 4}, {1, 1}, {0, 1, 0, 1}, {1}, {0, 0, 1}, repeat(256, 8), deepest(15)}
	d := dice(1)
	for n := 2; n <= 300; n += 7 {
		out = append(out, grown(&d, n, 15, d.below(21)), grown(&d, n, 9, 0))
	}
	return out
}

// must answers the code of lengths that New has to take.
func must(t *testing.T, lengths []int) *huff.Code {
	t.Helper()
	c, e := huff.New(lengths)
	if c == nil || e != api.OK {
		t.Fatalf("New(%v) = %v, %v; want a code", lengths, c, e)
	}
	return c
}

// told is a symbol's word in noughts and ones, "-" if it has none.
func told(c *huff.Code, symbol int) string {
	w, size, ok := c.Word(symbol)
	if !ok {
		return "-"
	}
	return fmt.Sprintf("%0*b", size, w)
}

// wantTold asks for the words of the first symbols, as many as want tells.
func wantTold(t *testing.T, c *huff.Code, want string) {
	t.Helper()
	var got []string
	for i := range strings.Fields(want) {
		got = append(got, told(c, i))
	}
	if strings.Join(got, " ") != want {
		t.Errorf("the words are %v, want %s", got, want)
	}
}

// bytesOf packs noughts and ones, the first one a byte's lowest.
func bytesOf(text string) []byte {
	out := make([]byte, (len(text)+7)/8)
	for i, c := range text {
		if c == '1' {
			out[i/8] |= 1 << (i % 8)
		}
	}
	return out
}

// panicOf answers what f panics with, nil if it does not.
func panicOf(f func()) (value any) {
	defer func() { value = recover() }()
	f()
	return nil
}

func wantLeft(t *testing.T, what string, l *bits.Low, want int) {
	t.Helper()
	if got := l.Left(); got != want {
		t.Errorf("%s: %d bits are left, want %d", what, got, want)
	}
}
