package filter_test

import (
	"bytes"
	"slices"
	"testing"

	"engraver/filter"
)

// P12.2: rows for which each of the kinds alone is the best one.
func TestBestIsEachKind(t *testing.T) {
	for want, c := range []struct{ row, above []byte }{
		{[]byte{1, 255, 1, 255}, []byte{100, 90, 100, 110}},
		{[]byte{50, 51, 52, 53}, []byte{150, 7, 200, 90}},
		{[]byte{53, 50, 50, 50}, []byte{50, 50, 50, 50}}, // Paeth carries the one unlike byte along
		{[]byte{50, 35, 67, 133}, []byte{100, 20, 100, 200}},
		{[]byte{60, 60, 60, 120, 120}, []byte{20, 20, 20, 120, 120}}, // left, as long as above goes on as it was, then above
	} {
		_, sums := slowBest(c.row, c.above, 1)
		for kind, sum := range sums {
			if kind != want && sum <= sums[want] {
				t.Errorf("the row for %d is none: %v", want, sums)
			}
		}
		wantBest(t, c.row, c.above, 1, want)
	}
}

// P12.2: of alike sums the least kind, for each pair of them and for all.
func TestBestOfAlikeSums(t *testing.T) {
	for _, c := range []struct {
		alike      []int
		row, above []byte
	}{
		{[]int{0, 1}, []byte{2}, []byte{10}},
		{[]int{0, 2}, []byte{11, 3}, []byte{4, 10}},
		{[]int{0, 3}, []byte{2, 0}, []byte{4, 2}},
		{[]int{0, 4}, []byte{8, 1}, []byte{10, 10}},
		{[]int{1, 2}, []byte{9, 6, 7}, []byte{1, 7, 3}},
		{[]int{1, 3}, []byte{2, 3}, []byte{1, 7}},
		{[]int{1, 4}, []byte{5, 7}, []byte{0, 0}},
		{[]int{2, 3}, []byte{6, 11}, []byte{10, 11}},
		{[]int{2, 4}, []byte{11}, []byte{6}},
		{[]int{3, 4}, []byte{3, 2}, []byte{5, 5}},
		{[]int{2, 4}, []byte{7, 8, 9, 10}, []byte{7, 8, 9, 10}},
		{[]int{1, 4}, []byte{5, 5, 5, 5}, nil},
		{[]int{0, 1, 2, 3, 4}, []byte{0, 0, 0}, []byte{0, 0, 0}},
		{[]int{0, 1, 2, 3, 4}, []byte{5}, nil},
	} {
		best, sums := slowBest(c.row, c.above, 1)
		for kind, sum := range sums {
			if (sum == sums[best]) != slices.Contains(c.alike, kind) {
				t.Errorf("of %v not %v are alike: %v", c.row, c.alike, sums)
			}
		}
		wantBest(t, c.row, c.above, 1, c.alike[0])
	}
}

// P12.2: 128 counts 128, 255 counts 1: else another kind would be the best one.
func TestBestCountsWithoutTheSign(t *testing.T) {
	wantBest(t, []byte{128}, []byte{1}, 1, 2)            // 128 and 127
	wantBest(t, []byte{255}, []byte{253}, 1, 0)          // 1 and 2
	wantBest(t, []byte{255, 255}, []byte{9, 77}, 1, 1)   // 1 1 and 1 0
	wantBest(t, []byte{128, 128}, []byte{0, 0}, 2, 0)    // alike in all
	wantBest(t, []byte{129, 129}, []byte{128, 1}, 2, 2)  // 127 127 and 1 128
	wantBest(t, []byte{10, 138}, []byte{100, 138}, 1, 2) // 10 118, 10 128 and 90 0
}

// P12.2: rows of one byte, of all bytes, beneath all bytes.
func TestBestOfAllSingleBytes(t *testing.T) {
	for v := range 256 {
		for up := range 256 {
			row, above := []byte{byte(v)}, []byte{byte(up)}
			want, _ := slowBest(row, above, 1)
			wantBest(t, row, above, 1, want)
		}
	}
}

// P12.2: as a model of the chapter's words has it; short rows of few values, where sums are often alike, each back, rows shorter than back.
func TestBestOfManyRows(t *testing.T) {
	d := dice(1)
	seen := make([]int, 5)
	for range 30000 {
		back, n, values := 1+d.below(8), d.below(12), 2+d.below(255)
		row, above := make([]byte, n), make([]byte, n*d.below(2))
		for i := range row {
			row[i] = byte(d.below(values) - values/2)
		}
		for i := range above {
			above[i] = row[i] + byte(d.below(values)/4)
		}
		want, _ := slowBest(row, above, back)
		seen[want]++
		wantBest(t, row, above, back, want)
	}
	for kind, n := range seen {
		if n < 100 {
			t.Errorf("kind %d: only %d rows", kind, n)
		}
	}
}

// P12.2: sums that 8, 15, 16, 31 or 32 bits don't hold, of the kind that is not the best.
func TestBestOfLongRows(t *testing.T) {
	for _, n := range []int{2, 1 << 7, 1 << 8, 1 << 9, 1 << 24, 1 << 25} {
		wantBest(t, full(n, 128), nil, 1, 1) // n times 128, and 128 once
	}
	row := bytes.Repeat([]byte{0, 128}, 1<<8) // 2^15 as it is, from left twice that, but its first byte
	wantBest(t, row, nil, 1, 0)
	wantBest(t, row, full(1<<9, 1), 1, 0) // 2^15, and from above 2^15 as well, but less by 1 and more by 1
}

// P12.2: 0, if Do is false; also of rows that another kind would be the best for.
func TestBestWhereDoIsFalse(t *testing.T) {
	for _, q := range wrongOnes() {
		if _, ok := filter.Do(0, q.row, q.above, q.back); !ok {
			wantBest(t, q.row, q.above, q.back, 0)
		}
	}
	flat := full(6, 50)
	wantBest(t, flat, nil, 1, 1)
	for _, back := range []int{0, -1, 9, 257} {
		wantBest(t, flat, nil, back, 0)
	}
	for _, n := range []int{1, 5, 7, 12} {
		wantBest(t, flat, full(n, 50), 1, 0)
	}
	wantBest(t, nil, flat, 1, 0)
	wantBest(t, nil, nil, 1, 0)
	wantBest(t, []byte{}, []byte{}, 8, 0)
}

// P12.2: back counts for the best kind too: two bytes a pixel, each like the one two places back, and far from the one beside it.
func TestBestLooksSoFarBack(t *testing.T) {
	row := bytes.Repeat([]byte{100, 28}, 8)
	wantBest(t, row, nil, 2, 1)
	wantBest(t, row, nil, 1, 3) // 86 and 22 each time, less than 100 and 28, or 72 and 72
}
