package deflate_test

import (
	"bytes"
	"compress/flate"
	"io"
	"slices"
	"strings"
	"testing"

	"engraver/api"
	"engraver/deflate"
	"engraver/inflate"
)

const (
	limit = 1 << 22 // bytes of which a stream is made
	block = 65535   // bytes that go into one stored block
)

// dice answers numbers that look like none in particular, the same ones for the same start.
type dice uint32

func (d *dice) below(n int) int {
	*d = *d*1664525 + 1013904223
	return int(uint64(*d) * uint64(n) >> 32) // by the highest bits: the lowest come again too soon
}

// noise answers n bytes that look like none in particular, of so many values.
func noise(start, n, values int) []byte {
	d := dice(start)
	out := make([]byte, n)
	for i := range out {
		out[i] = byte(d.below(values))
	}
	return out
}

// again is b, and behind it a row of that length from that far back.
func again(b []byte, length, distance int) []byte {
	return lengthened(slices.Clone(b), length, distance)
}

// lengthened is the same, in b's own memory.
func lengthened(b []byte, length, distance int) []byte {
	for range length {
		b = append(b, b[len(b)-distance])
	}
	return b
}

// mixed answers so many bytes of all kinds, in no order: noise, bytes of few kinds, of one, and rows that were there already.
func mixed(start, size int) []byte {
	d := dice(start)
	var out []byte
	for len(out) < size {
		n := 1 << d.below(11)
		n += d.below(n)
		switch kind := d.below(5); {
		case kind == 0:
			out = append(out, noise(d.below(1<<20), n, 256)...)
		case kind == 1:
			out = append(out, noise(d.below(1<<20), n, 1+d.below(9))...)
		case kind == 2:
			out = append(out, bytes.Repeat([]byte{byte(d.below(256))}, n)...)
		case len(out) > 0:
			out = lengthened(out, n, 1+d.below(min(len(out), 40000)))
		}
	}
	return out[:size]
}

const words = "What is found again is told by its distance; what is not stands as it is. "

func text(n int) []byte {
	return []byte(strings.Repeat(words, n/len(words)+1)[:n])
}

// samples are bytes of all kinds, few enough of them that each may be tried in many ways.
func samples() [][]byte {
	every := make([]byte, 256)
	for i := range every {
		every[i] = byte(i)
	}
	out := [][]byte{
		nil, {0}, {255}, {1, 2}, {7, 7}, {7, 7, 7}, {7, 7, 7, 7}, {1, 2, 1, 2, 1, 2}, every,
		[]byte("abracadabra, abracadabra"), text(500),
		noise(1, 600, 256), noise(2, 900, 4), bytes.Repeat([]byte{9}, 1000),
		slices.Concat(noise(3, 300, 256), noise(3, 300, 256), bytes.Repeat([]byte{0}, 300), noise(3, 300, 256)),
	}
	for i := range 6 {
		out = append(out, mixed(i, 100+400*i))
	}
	return out
}

// wantBack asks for all that P5.1 says of a stream of b: it is read as b, here and by another program, takes all its bytes,
// with others behind it too, and has no more than Most.
func wantBack(t *testing.T, what any, stream, b []byte) {
	t.Helper()
	if most := deflate.Most(len(b)); len(stream) > most {
		t.Errorf("%v: a stream of %d bytes, at most %d", what, len(stream), most)
	}
	wantRead(t, what, stream, b, len(stream))
	wantRead(t, what, slices.Concat(stream, []byte{0xff, 0, 0x5a}), b, len(stream))
	r := flate.NewReader(bytes.NewReader(stream))
	if back, err := io.ReadAll(r); err != nil || !bytes.Equal(back, b) {
		t.Errorf("%v: another program reads %d bytes of %d, %v", what, len(back), len(b), err)
	}
}

func wantRead(t *testing.T, what any, stream, b []byte, used int) {
	t.Helper()
	back, n, e := inflate.All(stream, len(b))
	if e != api.OK || n != used || !bytes.Equal(back, b) {
		t.Errorf("%v: %d bytes are read as %d, the same: %v, %d taken, %v", what, len(b), len(back), bytes.Equal(back, b), n, e)
	}
}

// wantAll asks that of All, and answers the stream.
func wantAll(t *testing.T, what any, b []byte) []byte {
	t.Helper()
	stream := deflate.All(b)
	wantBack(t, what, stream, b)
	return stream
}

// wantSmall asks for a stream that has no more than so many bytes as well.
func wantSmall(t *testing.T, what any, b []byte, most int) {
	t.Helper()
	if stream := wantAll(t, what, b); len(stream) > most {
		t.Errorf("%v: %d bytes have a stream of %d, want at most %d", what, len(b), len(stream), most)
	}
}

// scribble writes over a list, its spare room too.
func scribble(b []byte) {
	b = b[:cap(b)]
	for i := range b {
		b[i] ^= 0x5a
	}
}
