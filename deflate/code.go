package deflate

import (
	"slices"

	"engraver/huff"
)

const (
	longestWord       = 15 // bits
	longestLengthWord = 7  // bits of a word that tells a code length
	fewestLiterals    = 257
	fewestDistances   = 1
	fewestLengths     = 4
)

// lengthOrder is the order in which a block's head tells the lengths of the code of code lengths.
var lengthOrder = [...]int{16, 17, 18, 0, 8, 7, 9, 6, 10, 5, 11, 4, 12, 3, 13, 2, 14, 1, 15}

// code is a code and the lengths that it was made of.
type code struct {
	lengths []int
	words   *huff.Code
}

// codes are those of a block: of literals, lengths and the block's end, and of distances.
type codes struct {
	literals, distances code
}

// newCode makes a code of lengths that are known to make one.
func newCode(lengths []int) code {
	words, _ := huff.New(lengths)
	return code{lengths, words}
}

// shortestCode makes the code in which what is so frequent has the fewest bits. Lengths of 0 at its end are left out, as long as
// that many are left.
func shortestCode(freq []int, most, fewest int) code {
	lengths, _ := huff.Lengths(freq, most)
	return newCode(trimmed(lengths, fewest))
}

func trimmed(lengths []int, fewest int) []int {
	n := len(lengths)
	for n > fewest && lengths[n-1] == 0 {
		n--
	}
	return lengths[:n]
}

// bits tells how many bits so many words of each symbol have.
func (c code) bits(freq []int) int {
	sum := 0
	for symbol, n := range freq {
		_, size, _ := c.words.Word(symbol)
		sum += n * size
	}
	return sum
}

// fixedCodes are those that need not be told. Symbols that are never written have words as well.
func fixedCodes() codes {
	literals := slices.Concat(slices.Repeat([]int{8}, 144), slices.Repeat([]int{9}, 112), slices.Repeat([]int{7}, 24), slices.Repeat([]int{8}, 8))
	return codes{newCode(literals), newCode(slices.Repeat([]int{5}, 32))}
}

// ownCodes are the shortest ones for a block, which it brings with it.
func ownCodes(t *tally) codes {
	return codes{shortestCode(t.literals[:], longestWord, fewestLiterals), shortestCode(t.distances[:], longestWord, fewestDistances)}
}

// lengthMarks tells code lengths, those that repeat by how many times they do.
func lengthMarks(lengths []int) []mark {
	var out []mark
	for i := 0; i < len(lengths); {
		times := timesFrom(lengths, i)
		again := i > 0 && lengths[i-1] == lengths[i]
		next, n := lengthsMark(lengths[i], times, again)
		out = append(out, next)
		i += n
	}
	return out
}

// timesFrom counts how many times the length at i stands there in a row.
func timesFrom(lengths []int, i int) int {
	n := 1
	for i+n < len(lengths) && lengths[i+n] == lengths[i] {
		n++
	}
	return n
}

// lengthsMark tells the first of that many equal lengths, or so many of them at once as one mark can, and how many it told.
// again: the length ahead of them is the same.
func lengthsMark(length, times int, again bool) (mark, int) {
	switch {
	case length == 0 && times >= 11:
		n := min(times, 138)
		return mark{symbol: 18, further: n - 11, size: 7}, n
	case length == 0 && times >= 3:
		n := min(times, 10)
		return mark{symbol: 17, further: n - 3, size: 3}, n
	case again && times >= 3:
		n := min(times, 6)
		return mark{symbol: 16, further: n - 3, size: 2}, n
	}
	return mark{symbol: length}, 1
}

// inOrder lays the lengths of the code of code lengths as a block's head tells them, those of 0 at the end left out.
func inOrder(lengths []int) []int {
	var out [len(lengthOrder)]int
	for i := range out {
		out[i] = lengths[lengthOrder[i]]
	}
	return trimmed(out[:], fewestLengths)
}
