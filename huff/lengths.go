package huff

import (
	"cmp"
	"slices"
)

// mostFrequent is the greatest frequency that Lengths takes.
const mostFrequent = 1 << 20

// item stands in a row: a symbol, or a pair of neighbours of the row ahead of it.
type item struct {
	weight int64
	pair   bool
}

// Lengths answers lengths from 0 to most, which New takes, for a code of all symbols whose frequency is above 0:
// the more frequent never has the longer word, and no other such lengths make what is written shorter.
// False: most is not from 1 to 15, there are more than 320 frequencies, one is below 0 or above 2^20, or more are above 0 than 2 to the most.
func Lengths(freq []int, most int) ([]int, bool) {
	if most < 1 || most > longest || !mayBeFrequencies(freq) {
		return nil, false
	}
	used := rarestFirst(freq)
	if len(used) > 1<<most {
		return nil, false
	}
	out := make([]int, len(freq))
	if len(used) == 1 {
		out[used[0]] = 1
	}
	if len(used) < 2 {
		return out, true
	}
	lengthen(out, used, mergedRows(symbolItems(freq, used), most))
	return out, true
}

func mayBeFrequencies(freq []int) bool {
	if len(freq) > mostSymbols {
		return false
	}
	for _, f := range freq {
		if f < 0 || f > mostFrequent {
			return false
		}
	}
	return true
}

// rarestFirst answers the symbols whose frequency is above 0, the rarest first, of equal ones the lowest.
func rarestFirst(freq []int) []int {
	var used []int
	for symbol, f := range freq {
		if f > 0 {
			used = append(used, symbol)
		}
	}
	slices.SortStableFunc(used, func(a, b int) int { return cmp.Compare(freq[a], freq[b]) })
	return used
}

func symbolItems(freq, used []int) []item {
	var row []item
	for _, symbol := range used {
		row = append(row, item{weight: int64(freq[symbol])})
	}
	return row
}

// mergedRows is the package-merge method: the first row is the symbols, each further one the symbols and the pairs
// of the row ahead, by their weights. There are as many rows as a word may have bits.
func mergedRows(symbols []item, most int) [][]item {
	rows := [][]item{symbols}
	for len(rows) < most {
		rows = append(rows, merged(symbols, pairs(rows[len(rows)-1])))
	}
	return rows
}

// pairs makes one item of each two neighbours; a last one that has none is left out.
func pairs(row []item) []item {
	var out []item
	for i := 1; i < len(row); i += 2 {
		out = append(out, item{weight: row[i-1].weight + row[i].weight, pair: true})
	}
	return out
}

// merged lays two rows together by weight, of equal ones those of a first.
func merged(a, b []item) []item {
	out := make([]item, 0, len(a)+len(b))
	for len(a) > 0 && len(b) > 0 {
		if a[0].weight <= b[0].weight {
			out, a = append(out, a[0]), a[1:]
		} else {
			out, b = append(out, b[0]), b[1:]
		}
	}
	return append(append(out, a...), b...)
}

// lengthen adds a bit to a symbol's length for each row in which it is chosen. Of n symbols the last row's first 2n-2 items
// are chosen, and of each row ahead those of which chosen pairs are made. A row's symbols are chosen from the rarest on,
// so the more frequent never gets the longer word.
func lengthen(out, used []int, rows [][]item) {
	chosen := 2*len(used) - 2
	for i := len(rows) - 1; i >= 0; i-- {
		paired := countPairs(rows[i][:chosen])
		for _, symbol := range used[:chosen-paired] {
			out[symbol]++
		}
		chosen = 2 * paired
	}
}

func countPairs(row []item) int {
	n := 0
	for _, x := range row {
		if x.pair {
			n++
		}
	}
	return n
}
