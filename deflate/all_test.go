package deflate_test

import (
	"bytes"
	"fmt"
	"math"
	"slices"
	"testing"

	"engraver/deflate"
)

func TestChapterExample(t *testing.T) {
	wantSmall(t, "nil", nil, 5)
	wantSmall(t, "none", []byte{}, 5)
	if !bytes.Equal(deflate.All(nil), deflate.All([]byte{})) {
		t.Error("nil and an empty list have two streams")
	}
}

func TestOneByte(t *testing.T) {
	for i := range 256 {
		wantAll(t, i, []byte{byte(i)})
	}
}

// TestFewBytes: all lists of up to seven bytes of three kinds, in which the shortest rows are found, or just not.
func TestFewBytes(t *testing.T) {
	number := 3
	for n := 2; n <= 7; n++ {
		number *= 3
		for i := range number {
			var b []byte
			for x := i; len(b) < n; x /= 3 {
				b = append(b, byte(x%3)*127)
			}
			wantAll(t, b, b)
		}
	}
}

func TestSamples(t *testing.T) {
	for i, b := range samples() {
		wantAll(t, fmt.Sprint("sample ", i), b)
	}
}

func TestNoiseOfManyLengths(t *testing.T) {
	for n := range 700 {
		for _, values := range []int{256, 200, 17, 4, 2} {
			wantAll(t, fmt.Sprint(n, " bytes of ", values, " kinds"), noise(n, n, values))
		}
	}
}

// TestFewKinds: bytes of which each has few bits to tell need not have eight.
func TestFewKinds(t *testing.T) {
	for _, c := range []struct{ values, most int }{{1, 100}, {2, 6000}, {4, 10000}, {16, 20000}} {
		b := noise(c.values, 30000, c.values)
		wantSmall(t, fmt.Sprint(c.values, " kinds"), b, c.most)
		for i := range b {
			b[i] = 255 - b[i]*15
		}
		wantSmall(t, fmt.Sprint(c.values, " kinds, far apart"), b, c.most)
	}
}

func TestTexts(t *testing.T) {
	for n := range 400 {
		wantAll(t, n, text(n))
	}
	wantSmall(t, "a text", text(10000), 400)
	wantSmall(t, "a long text", text(300000), 4000)
}

// TestEveryLiteral: all values stand as they are, in each kind of block that has a code.
func TestEveryLiteral(t *testing.T) {
	for i := range 256 {
		v := byte(i)
		wantAll(t, i, []byte{v, v, v})
		few := noise(i, 2000, 3)
		for j := range few {
			few[j] = few[j]*77 + v
		}
		wantSmall(t, fmt.Sprint(i, " and two more"), few, 700)
	}
}

// TestRowsOfEveryLength: a row that was there already, of all lengths that can be told and some beyond, between bytes that were not.
func TestRowsOfEveryLength(t *testing.T) {
	b := noise(4, 300, 256)
	for length := 1; length <= 300; length++ {
		for _, distance := range []int{1, 2, 3, 4, 5, 9, 150, 299, 300} {
			row := append(again(b, length, distance), b[0]^1, b[1]^2)
			wantAll(t, fmt.Sprint(length, " from ", distance), row)
		}
	}
	for _, length := range []int{3, 10, 11, 18, 19, 114, 115, 130, 131, 226, 227, 257, 258, 259, 260, 261, 516, 517, 518} {
		many := slices.Clone(b)
		for i := range 40 {
			many = append(again(many, length, 300), byte(i))
		}
		wantAll(t, fmt.Sprint("many of ", length), many)
	}
}

// TestRowsAtEveryDistance: around each number at which the distances' symbols go on to the next.
func TestRowsAtEveryDistance(t *testing.T) {
	b := noise(5, 32770, 256)
	distances := []int{1, 2, 3, 4}
	for size := 2; size <= 14; size++ {
		for _, near := range []int{-1, 0, 1} {
			distances = append(distances, 1<<size+near, 3<<(size-1)+near)
		}
	}
	distances = append(distances, 32766, 32767, 32768, 32769, 32770)
	for _, distance := range distances {
		for _, length := range []int{3, 4, 258, 600} {
			head := b[:distance]
			wantAll(t, fmt.Sprint(length, " from ", distance), again(head, length, distance))
		}
	}
}

// TestRowsAreFound: what comes again, as far back as a distance can tell, has not to be told a second time.
func TestRowsAreFound(t *testing.T) {
	for _, distance := range []int{300, 1000, 4095, 4096, 4097, 10000, 24577, 32767, 32768} {
		b := noise(distance, distance, 256)
		wantSmall(t, fmt.Sprint("twice ", distance), again(b, distance, distance), distance+distance/16+300)
		wantSmall(t, fmt.Sprint("ten times ", distance), again(b, 9*distance, distance), distance+distance/5+1000)
	}
	for distance := 1; distance <= 300; distance++ {
		b := noise(distance, distance, 256)
		wantSmall(t, fmt.Sprint("a row longer than ", distance), again(b, 20000, distance), 2*distance+500)
	}
}

// TestRowsThatReachIntoTheBlockAhead: rows are found where one block ends and the next begins.
func TestRowsThatReachIntoTheBlockAhead(t *testing.T) {
	for _, n := range []int{block - 300, block - 259, block - 258, block - 257, block - 3, block - 2, block - 1, block, block + 1, block + 2} {
		b := slices.Concat(make([]byte, n-200), noise(n, 200, 256))
		wantSmall(t, fmt.Sprint("a row behind ", n), again(b, 1000, 200), 900)
		wantSmall(t, fmt.Sprint("far ones behind ", n), again(b, 32768+200, 32768), 1300)
	}
}

// around are the numbers of bytes at which one more stored block is begun, and those beside them.
func around(blocks ...int) []int {
	var out []int
	for _, n := range blocks {
		out = append(out, n*block-1, n*block, n*block+1)
	}
	return out
}

func TestWholeStoredBlocks(t *testing.T) {
	for _, n := range around(1, 2, 3, 10) {
		for _, values := range []int{256, 255, 250, 3, 1} {
			wantAll(t, fmt.Sprint(n, " bytes of ", values, " kinds"), noise(n, n, values))
		}
		wantAll(t, fmt.Sprint(n, " mixed"), mixed(n, n))
		wantAll(t, fmt.Sprint(n, " of a text"), text(n))
	}
}

// TestStoredBehindEveryBit: wherever in a byte a block ends, one that is best stored follows, and one behind that.
func TestStoredBehindEveryBit(t *testing.T) {
	for kinds := 1; kinds <= 24; kinds++ {
		b := slices.Concat(noise(kinds, block-100, 1+kinds%3), noise(kinds, 100+kinds, 2+kinds), noise(kinds, block, 256), text(block))
		wantAll(t, fmt.Sprint("behind ", kinds), b)
		wantAll(t, fmt.Sprint("behind ", kinds, ", the last"), b[:2*block])
		wantAll(t, fmt.Sprint("behind ", kinds, ", one byte"), b[:block+1])
	}
}

func TestMixed(t *testing.T) {
	for i := range 300 {
		wantAll(t, i, mixed(i, 1+i*i))
	}
}

func TestManyBytes(t *testing.T) {
	for _, n := range []int{limit - 1, limit} {
		for _, values := range []int{256, 2, 1} {
			wantAll(t, fmt.Sprint(n, " bytes of ", values, " kinds"), noise(n, n, values))
		}
	}
}

func TestTooManyBytes(t *testing.T) {
	for _, n := range []int{limit + 1, limit + 2, 2 * limit} {
		for _, values := range []int{1, 256} {
			if out := deflate.All(noise(1, n, values)); len(out) != 0 {
				t.Errorf("%d bytes have a stream of %d", n, len(out))
			}
		}
	}
}

func TestMost(t *testing.T) {
	for _, c := range []struct{ n, want int }{
		{math.MinInt, 5}, {-65536, 5}, {-7, 5}, {-1, 5}, {0, 5},
		{1, 11}, {2, 12}, {1000, 1010},
		{65534, 65544}, {65535, 65545}, {65536, 65551}, {65537, 65552},
		{131069, 131084}, {131070, 131085}, {131071, 131091},
		{655350, 655405}, {655351, 655411},
		{limit, limit + 330}, {limit + 1, limit + 331},
		{math.MaxInt32, math.MaxInt32 + 163850},
	} {
		if got := deflate.Most(c.n); got != c.want {
			t.Errorf("Most(%d) = %d, want %d", c.n, got, c.want)
		}
	}
}

// TestTheSameStream: whatever was written ahead, and by whom.
func TestTheSameStream(t *testing.T) {
	list := samples()
	var first [][]byte
	for _, b := range list {
		first = append(first, deflate.All(b))
	}
	for i := len(list) - 1; i >= 0; i-- {
		deflate.All(list[(i*7+3)%len(list)])
		if !bytes.Equal(deflate.All(slices.Clone(list[i])), first[i]) {
			t.Errorf("sample %d has two streams", i)
		}
		if spare := append(slices.Clone(list[i]), 1, 2, 3); !bytes.Equal(deflate.All(spare[:len(list[i])]), first[i]) {
			t.Errorf("sample %d has another stream with bytes in its spare room", i)
		}
	}
	long := mixed(9, 100000)
	if !bytes.Equal(deflate.All(long), deflate.All(slices.Clone(long))) {
		t.Error("many bytes have two streams")
	}
}
