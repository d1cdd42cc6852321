package inflate_test

import (
	"bytes"
	"compress/flate"
	"math"
	"slices"
	"strings"
	"testing"

	"engraver/api"
	"engraver/inflate"
)

// room is more than any stream of these tests puts out.
const room = 1 << 20

// dice answers numbers that look like none in particular, the same ones for the same start.
type dice uint32

func (d *dice) below(n int) int {
	*d = *d*1664525 + 1013904223
	return int(uint32(*d)>>8) % n
}

// noise answers n bytes that look like none in particular, of so many values.
func noise(start, n, values int) []byte {
	d := dice(start)
	out := make([]byte, n)
	for i := range out {
		out[i] = byte(d.below(values))
	}
	return out
}

// text is noughts and ones in the order in which a stream has them; the functions below put streams together of such texts.
type text string

// number is x in n bits, its lowest first.
func number(x, n int) text {
	out := ""
	for i := range n {
		out += string(rune('0' + x>>i&1))
	}
	return text(out)
}

// word is x in n bits, its highest first, as words of a code stand in a stream.
func word(x, n int) text {
	out := []byte(number(x, n))
	slices.Reverse(out)
	return text(out)
}

// bytes fills the last byte with noughts.
func (t text) bytes() []byte {
	out := make([]byte, (len(t)+7)/8)
	for i, c := range t {
		if c == '1' {
			out[i/8] |= 1 << (i % 8)
		}
	}
	return out
}

// head is what each block begins with.
func head(last bool, kind int) text {
	if last {
		return "1" + number(kind, 2)
	}
	return "0" + number(kind, 2)
}

// storedBlock goes behind what stands ahead of it, since it begins a byte.
func (t text) storedBlock(last bool, b []byte) text {
	t += head(last, 0)
	for len(t)%8 != 0 {
		t += "0"
	}
	return t + number(len(b), 16) + number(^len(b), 16) + textOf(b)
}

func textOf(b []byte) text {
	var out strings.Builder
	for _, c := range b {
		out.WriteString(string(number(int(c), 8)))
	}
	return text(out.String())
}

// fixed is a symbol's word in the fixed code of literals and lengths, as RFC 1951, 3.2.6 lists them.
func fixed(symbol int) text {
	switch {
	case symbol < 144:
		return word(0b00110000+symbol, 8)
	case symbol < 256:
		return word(0b110010000+symbol-144, 9)
	case symbol < 280:
		return word(symbol-256, 7)
	}
	return word(0b11000000+symbol-280, 8)
}

// literals are bytes in the fixed code.
func literals(b ...byte) text {
	out := text("")
	for _, c := range b {
		out += fixed(int(c))
	}
	return out
}

// fixedRow is a row of bytes told by its distance, in the fixed code.
func fixedRow(length, distance int) text {
	symbol, further := lengthText(length)
	place, more := distanceText(distance)
	return fixed(symbol) + further + word(place, 5) + more
}

// lengthText is a length's symbol and the further bits, by the list of RFC 1951, 3.2.5.
func lengthText(length int) (int, text) {
	if length == 258 {
		return 285, ""
	}
	first := []int{3, 4, 5, 6, 7, 8, 9, 10, 11, 13, 15, 17, 19, 23, 27, 31, 35, 43, 51, 59, 67, 83, 99, 115, 131, 163, 195, 227}
	further := []int{0, 0, 0, 0, 0, 0, 0, 0, 1, 1, 1, 1, 2, 2, 2, 2, 3, 3, 3, 3, 4, 4, 4, 4, 5, 5, 5, 5}
	i := lastNotAbove(first, length)
	return 257 + i, number(length-first[i], further[i])
}

// distanceText is a distance's symbol and the further bits, by the list of RFC 1951, 3.2.5.
func distanceText(distance int) (int, text) {
	first := []int{1, 2, 3, 4, 5, 7, 9, 13, 17, 25, 33, 49, 65, 97, 129, 193, 257, 385, 513, 769, 1025, 1537, 2049, 3073, 4097, 6145, 8193, 12289, 16385, 24577}
	further := []int{0, 0, 0, 0, 1, 1, 2, 2, 3, 3, 4, 4, 5, 5, 6, 6, 7, 7, 8, 8, 9, 9, 10, 10, 11, 11, 12, 12, 13, 13}
	i := lastNotAbove(first, distance)
	return i, number(distance-first[i], further[i])
}

func lastNotAbove(l []int, x int) int {
	i := 0
	for i+1 < len(l) && l[i+1] <= x {
		i++
	}
	return i
}

// ownHead is the head of a block of codes of its own, the lengths of the code of code lengths by their symbols.
func ownHead(last bool, literals, distances int, sizes map[int]int) text {
	return head(last, 2) + number(literals-257, 5) + number(distances-1, 5) + number(15, 4) + sizesText(sizes)
}

func sizesText(sizes map[int]int) text {
	out := text("")
	for _, symbol := range []int{16, 17, 18, 0, 8, 7, 9, 6, 10, 5, 11, 4, 12, 3, 13, 2, 14, 1, 15} {
		out += number(sizes[symbol], 3)
	}
	return out
}

// plainSizes make a code in which each length from 0 to 15 is itself in 4 bits, and none repeats.
func plainSizes() map[int]int {
	out := map[int]int{}
	for i := range 16 {
		out[i] = 4
	}
	return out
}

// ownBlock is the head of a block of these codes, each length written out.
func ownBlock(last bool, literals, distances []int) text {
	out := ownHead(last, len(literals), len(distances), plainSizes())
	for _, n := range slices.Concat(literals, distances) {
		out += word(n, 4)
	}
	return out
}

// sparse are n lengths, all 0 but those told.
func sparse(n int, lengths map[int]int) []int {
	out := make([]int, n)
	for symbol, size := range lengths {
		out[symbol] = size
	}
	return out
}

// squeezed are streams that another program makes of b.
func squeezed(t *testing.T, b []byte) [][]byte {
	t.Helper()
	var out [][]byte
	for _, level := range []int{flate.HuffmanOnly, flate.NoCompression, flate.BestSpeed, 6, flate.BestCompression} {
		var buffer bytes.Buffer
		w, err := flate.NewWriter(&buffer, level)
		if err != nil {
			t.Fatal(err)
		}
		w.Write(b[:len(b)/3])
		w.Flush() // an empty stored block in the midst
		w.Write(b[len(b)/3:])
		w.Close()
		out = append(out, buffer.Bytes())
	}
	return out
}

// samples are streams of all kinds of blocks, whole ones.
func samples(t *testing.T) [][]byte {
	t.Helper()
	two := ownBlock(true, sparse(259, map[int]int{'a': 1, 'b': 2, 256: 3, 258: 3}), []int{1, 1})
	out := [][]byte{
		{3, 0},
		text("").storedBlock(true, nil).bytes(),
		text("").storedBlock(true, []byte{8, 9}).bytes(),
		(text("").storedBlock(false, []byte{5, 6}) + head(true, 1) + literals(7) + fixedRow(3, 1) + fixed(256)).bytes(),
		(head(false, 1) + literals(0, 143, 144, 255) + fixedRow(258, 3) + fixed(256)).storedBlock(true, []byte{1}).bytes(),
		(two + "0" + "10" + "111" + "1" + "111" + "0" + "110").bytes(),
		(head(false, 1) + fixed(256) + head(false, 1) + literals(1) + fixed(256) + two + "110").bytes(),
		text("").storedBlock(false, nil).storedBlock(false, []byte{1}).storedBlock(false, nil).storedBlock(true, nil).bytes(),
	}
	for _, b := range [][]byte{nil, []byte("abracadabra, abracadabra"), noise(1, 500, 256), noise(2, 2000, 4), bytes.Repeat([]byte{7}, 900)} {
		out = append(out, squeezed(t, b)...)
	}
	return out
}

// answer is what All says, and what a Machine comes to.
type answer struct {
	out  []byte
	used int
	err  api.Errno
}

func all(b []byte, most int) answer {
	out, used, e := inflate.All(b, most)
	return answer{out, used, e}
}

func (a answer) same(b answer) bool {
	return bytes.Equal(a.out, b.out) && a.used == b.used && a.err == b.err
}

// short tells an answer without its many bytes.
func (a answer) short() []any {
	return []any{a.out[:min(len(a.out), 20)], len(a.out), a.used, a.err}
}

func wantAnswer(t *testing.T, what any, got, want answer) {
	t.Helper()
	if !got.same(want) {
		t.Errorf("%v: %v, want %v", what, got.short(), want.short())
	}
}

// wantOut asks for a whole stream's bytes, all of the stream taken, whether bytes stand behind it or not.
func wantOut(t *testing.T, what any, stream, want []byte) {
	t.Helper()
	wantAnswer(t, what, all(stream, len(want)), answer{want, len(stream), api.OK})
	wantAnswer(t, what, all(slices.Concat(stream, []byte{0xff, 0}), math.MaxInt), answer{want, len(stream), api.OK})
}

// wantErr asks for an error of All, with which there are no bytes, and 0.
func wantErr(t *testing.T, what any, b []byte, most int, want api.Errno) {
	t.Helper()
	wantAnswer(t, what, all(b, most), answer{err: want})
}
