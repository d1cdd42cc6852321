package zlib_test

import (
	"bytes"
	stdzlib "compress/zlib"
	"io"
	"slices"
	"strings"
	"testing"

	"engraver/api"
	"engraver/zlib"
)

const (
	limit = 1 << 22 // bytes of which a stream is made
	block = 65535   // bytes that go into one stored block
)

// good is a stream whose parts are easily told: the head, a stored block of 8 and 9, the sum.
func good() []byte {
	return []byte{0x78, 1, 1, 2, 0, 253, 255, 8, 9, 0, 27, 0, 18}
}

// framed puts a head before a stream and a sum behind it.
func framed(stream []byte, sum ...byte) []byte {
	return slices.Concat([]byte{0x78, 1}, stream, sum)
}

// noise answers n bytes that look like none in particular, the same ones for the same start.
func noise(start uint32, n int) []byte {
	out := make([]byte, n)
	for i := range out {
		start = start*1664525 + 1013904223
		out[i] = byte(start >> 24)
	}
	return out
}

func text(n int) []byte {
	const words = "A stream is closed by its sum, and the sum is asked last. "
	return []byte(strings.Repeat(words, n/len(words)+1)[:n])
}

func row(n int, b byte) []byte { return bytes.Repeat([]byte{b}, n) }

// samples are bytes of all kinds: none, one, rows, texts, in no order, and of more than one block.
func samples() [][]byte {
	return [][]byte{
		nil, {}, {0}, {1}, {255}, {7, 7}, row(3, 0), row(258, 9), row(5000, 255), noise(1, 2), noise(2, 4000), text(30), text(5000),
		row(block, 3), row(block+1, 3), noise(3, block-1), noise(4, block), noise(5, block+1), noise(6, 2*block+1), text(3 * block),
		slices.Concat(text(70000), noise(7, 70000), row(70000, 0), text(100)),
	}
}

func wantOpen(t *testing.T, what any, b []byte, most int, want []byte) {
	t.Helper()
	if out, e := zlib.Open(b, most); e != api.OK || !bytes.Equal(out, want) {
		t.Errorf("%v: %d bytes, the same: %v, %v; want %d, ok", what, len(out), bytes.Equal(out, want), e, len(want))
	}
}

// wantNot asks for an error, and for no bytes beside it.
func wantNot(t *testing.T, what any, b []byte, most int, want api.Errno) {
	t.Helper()
	if out, e := zlib.Open(b, most); e != want || len(out) != 0 {
		t.Errorf("%v: %d bytes, %v; want none, %v", what, len(out), e, want)
	}
}

// otherOpens reads a stream by the library's own program.
func otherOpens(b []byte) ([]byte, error) {
	r, err := stdzlib.NewReader(bytes.NewReader(b))
	if err != nil {
		return nil, err
	}
	return io.ReadAll(r)
}

// otherCloses writes a stream by the library's own program.
func otherCloses(t *testing.T, b []byte, level int) []byte {
	t.Helper()
	var out bytes.Buffer
	w, err := stdzlib.NewWriterLevel(&out, level)
	if err != nil {
		t.Fatal(err)
	}
	if _, err := w.Write(b); err != nil {
		t.Fatal(err)
	}
	if err := w.Close(); err != nil {
		t.Fatal(err)
	}
	return out.Bytes()
}

// scribble writes over a list, its spare room too.
func scribble(b []byte) {
	b = b[:cap(b)]
	for i := range b {
		b[i] ^= 0x5a
	}
}

// wantUntouched asks that a call neither changes nor keeps what it is handed, spare room too, and answers new memory.
func wantUntouched(t *testing.T, given []byte, call func([]byte) []byte) {
	t.Helper()
	room := slices.Concat(given, noise(2, 300))
	b := room[:len(given)]
	before := slices.Clone(room)
	first := call(b)
	if !bytes.Equal(room, before) {
		t.Error("the bytes handed in are changed")
	}
	kept := slices.Clone(first)
	scribble(b)
	if !bytes.Equal(first, kept) {
		t.Error("what is answered hangs on the bytes handed in")
	}
	b = slices.Clone(given)
	second := call(b)
	scribble(first)
	if !bytes.Equal(b, given) || !bytes.Equal(second, kept) || !bytes.Equal(call(b), kept) {
		t.Error("an answer shares memory")
	}
}
