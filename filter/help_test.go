package filter_test

import (
	"bytes"
	"math"
	"slices"
	"testing"

	"engraver/filter"
)

// dice answers numbers that look like none in particular, the same ones for the same start.
type dice uint32

func (d *dice) below(n int) int {
	*d = *d*1664525 + 1013904223
	return int(uint64(*d) * uint64(n) >> 32) // by the highest bits: the lowest come again too soon
}

// noise answers n bytes that look like none in particular.
func noise(start, n int) []byte {
	d := dice(start)
	out := make([]byte, n)
	for i := range out {
		out[i] = byte(d.below(256))
	}
	return out
}

// full answers n times this byte.
func full(n int, v byte) []byte { return bytes.Repeat([]byte{v}, n) }

// asked is what a row is asked of.
type asked struct {
	kind, back int
	row, above []byte
}

// lengths are those of rows below, at and beyond a back.
func lengths(back int) []int {
	return []int{0, 1, back - 1, back, back + 1, 2 * back, 2*back + 1, 3*back + 2, 40}
}

// manyRows are rows of each of these lengths, each back from 1 to 8, each kind, the row above empty, of noughts, the highest ones or any.
func manyRows() []asked {
	var out []asked
	for back := 1; back <= 8; back++ {
		for _, n := range lengths(back) {
			for i, above := range [][]byte{nil, {}, make([]byte, n), full(n, 255), noise(n+1, n), noise(n+2, n)} {
				for kind := range 5 {
					out = append(out, asked{kind, back, noise(back*100+n*10+i, n), above}, asked{kind, back, full(n, byte(255*(i%2))), above})
				}
			}
		}
	}
	return out
}

// wrongOnes are calls that are false, all but one thing in order; row and above may be any where the others are wrong.
func wrongOnes() []asked {
	var out []asked
	some := noise(1, 6)
	for _, rows := range [][2][]byte{{some, nil}, {some, noise(2, 6)}, {nil, nil}} {
		for _, kind := range []int{-1, 5, 6, 255, 256, 257, 260, -256, 1 << 32, math.MaxInt, math.MinInt} {
			out = append(out, asked{kind, 1, rows[0], rows[1]}, asked{kind, 8, rows[0], rows[1]})
		}
		for _, back := range []int{0, -1, 9, 10, -8, 256, 257, 1 << 32, 1<<32 + 1, math.MaxInt, math.MinInt} {
			for kind := range 5 {
				out = append(out, asked{kind, back, rows[0], rows[1]})
			}
		}
	}
	for kind := range 5 {
		for _, back := range []int{1, 4, 8} {
			out = append(out, asked{kind, back, some, noise(2, 5)}, asked{kind, back, some, noise(2, 7)}, asked{kind, back, some, noise(2, 1)},
				asked{kind, back, nil, []byte{0}}, asked{kind, back, []byte{}, noise(2, 6)}, asked{kind, back, []byte{7}, noise(2, 2)})
		}
	}
	return out
}

// nearest answers the first of a, b, c among those that lie nearest to a + b - c.
func nearest(a, b, c int) int {
	sum := a + b - c
	all := []int{a, b, c}
	slices.SortStableFunc(all, func(x, y int) int { return (x-sum)*(x-sum) - (y-sum)*(y-sum) })
	return all[0]
}

// slow answers what the chapter says of Do, in a row laid behind as many noughts as back is.
func slow(q asked) []byte {
	row, above := append(make([]byte, q.back), q.row...), make([]byte, q.back+len(q.row))
	copy(above[q.back:], q.above)
	var out []byte
	for i := q.back; i < len(row); i++ {
		left, up, corner := int(row[i-q.back]), int(above[i]), int(above[i-q.back])
		fore := []int{0, left, up, (left + up) >> 1, nearest(left, up, corner)}[q.kind]
		out = append(out, byte((int(row[i])+256-fore)%256))
	}
	return out
}

// weight answers the sum of bytes as the chapter has them.
func weight(b []byte) int {
	n := 0
	for _, v := range b {
		if v < 128 {
			n += int(v)
		} else {
			n += 256 - int(v)
		}
	}
	return n
}

// slowBest answers what the chapter says of Best, and what each kind comes to.
func slowBest(row, above []byte, back int) (int, []int) {
	var sums []int
	for kind := range 5 {
		sums = append(sums, weight(slow(asked{kind, back, row, above})))
	}
	return slices.Index(sums, slices.Min(sums)), sums
}

func wantDo(t *testing.T, q asked, want []byte) {
	t.Helper()
	if got, ok := filter.Do(q.kind, q.row, q.above, q.back); !ok || !bytes.Equal(got, want) {
		t.Errorf("Do of %v: %v, %v; want %v, true", q, got, ok, want)
	}
}

func wantUndo(t *testing.T, q asked, want []byte) {
	t.Helper()
	if got, ok := filter.Undo(q.kind, q.row, q.above, q.back); !ok || !bytes.Equal(got, want) {
		t.Errorf("Undo of %v: %v, %v; want %v, true", q, got, ok, want)
	}
}

func wantBest(t *testing.T, row, above []byte, back, want int) {
	t.Helper()
	if got := filter.Best(row, above, back); got != want {
		t.Errorf("Best of %v, %v, %d: %d, want %d", short(row), short(above), back, got, want)
	}
}

// short answers no more of a row than one wants to read.
func short(b []byte) []byte { return b[:min(len(b), 16)] }

// spare answers a list that has marks in its spare room, and the whole of it with them.
func spare(list []byte) (short, whole []byte) {
	whole = slices.Concat(list, []byte{0xee, 0xee, 0xee})
	return whole[:len(list)], whole
}

// scribble writes over a list, its spare room too.
func scribble(list []byte) {
	list = list[:cap(list)]
	for i := range list {
		list[i] ^= 0xff
	}
}
