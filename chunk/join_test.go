package chunk_test

import (
	"bytes"
	"fmt"
	"slices"
	"strings"
	"testing"

	"engraver/api"
	"engraver/chunk"
)

// P11.1: no chunks are the signature alone.
func TestJoinOfNoChunks(t *testing.T) {
	wantJoined(t, "nil", nil, []byte{0x89, 0x50, 0x4e, 0x47, 0x0d, 0x0a, 0x1a, 0x0a})
	wantJoined(t, "none", []chunk.Chunk{}, []byte(signature))
	wantJoined(t, "some's beginning", of("IHDR IDAT IEND")[:0], []byte(signature))
}

// P11.1: each chunk's length, kind, data and sum, one chunk behind the other.
func TestJoin(t *testing.T) {
	wantJoined(t, "IEND", of("IEND"), append([]byte(signature), 0, 0, 0, 0, 'I', 'E', 'N', 'D', 0xae, 0x42, 0x60, 0x82))
	for n := range 12 {
		l := some(n, n)
		var parts [][]byte
		for _, c := range l {
			parts = append(parts, good(c.Kind, c.Data...))
		}
		wantJoined(t, n, l, file(parts...))
	}
	for _, n := range []int{0, 1, 255, 256, 65535, 65536, 200000} {
		data := noise(n, n)
		wantJoined(t, n, []chunk.Chunk{{Kind: "IDAT", Data: data}}, file(good("IDAT", data...)))
	}
}

// P11.1: no IEND is added, and none that is there is looked at.
func TestJoinAddsNoEnd(t *testing.T) {
	wantJoined(t, "none", []chunk.Chunk{{Kind: "IDAT", Data: []byte{1}}}, file(good("IDAT", 1)))
	wantJoined(t, "one", of("IDAT IEND"), file(good("IDAT"), end()))
	wantJoined(t, "two", of("IEND IDAT IEND"), file(end(), good("IDAT"), end()))
	wantJoined(t, "ahead", []chunk.Chunk{{Kind: "IEND", Data: []byte{2}}, {Kind: "IDAT"}}, file(good("IEND", 2), good("IDAT")))
	b, _ := chunk.Join(of("IHDR IDAT"))
	wantNotCut(t, "none", b, api.ErrShort)
}

// P11.1: Cut answers what was joined.
func TestCutOfWhatIsJoined(t *testing.T) {
	for n := range 60 {
		l := append(some(n, n), chunk.Chunk{Kind: "IEND", Data: noise(n, n%3)})
		b, e := chunk.Join(l)
		if e != api.OK {
			t.Errorf("%d chunks: %v", n, e)
		}
		wantCut(t, n, b, l)
	}
}

// P11.1: kinds that are not four letters, anywhere.
func TestJoinOfNoKinds(t *testing.T) {
	bad := []string{"", "I", "ID", "IDA", "IDATA", "IDATIDAT", "IDAT\x00", " IDAT", "éé", "日本", "ÀB", strings.Repeat("a", 1000), "日"}
	for at := range 4 {
		for _, c := range []byte(notLetters) {
			kind := []byte("abCD")
			kind[at] = c
			bad = append(bad, string(kind))
		}
	}
	for _, kind := range bad {
		wantNotJoined(t, fmt.Sprintf("%q", kind), []chunk.Chunk{{Kind: kind}}, api.ErrArg)
		for at := range 4 {
			l := of("IHDR IDAT IEND")
			wantNotJoined(t, fmt.Sprintf("%q at %d", kind, at), slices.Insert(l, at, chunk.Chunk{Kind: kind, Data: []byte{1}}), api.ErrArg)
		}
	}
	for _, kind := range []string{"AAAA", "ZZZZ", "aaaa", "zzzz", "AzZa", "abCD", "IEND"} {
		wantJoined(t, kind, []chunk.Chunk{{Kind: kind}}, file(good(kind)))
	}
}

// P11.1: just MaxInput bytes, and one more; of one chunk and of several.
func TestJoinOfManyBytes(t *testing.T) {
	room := api.MaxInput - len(signature)
	for _, n := range []int{1, 2, 3, 7, 1000, room / 12} {
		l := slices.Repeat(of("IDAT"), n)
		for _, at := range []int{0, n / 2, n - 1} {
			full := slices.Clone(l)
			full[at].Data = noise(n, room-12*n)
			var parts [][]byte
			for _, c := range full {
				parts = append(parts, good(c.Kind, c.Data...))
			}
			wantJoined(t, []int{n, at}, full, file(parts...))
			full[at].Data = append(full[at].Data, 1)
			wantNotJoined(t, []int{n, at}, full, api.ErrLong)
		}
	}
	wantNotJoined(t, "too many without data", slices.Repeat(of("IDAT"), room/12+1), api.ErrLong)
	wantNotJoined(t, "by far", []chunk.Chunk{{Kind: "IDAT", Data: make([]byte, 1<<22)}}, api.ErrLong)
	for _, more := range []int{1, 11, 12, 13, 20, 21} {
		l := []chunk.Chunk{{Kind: "IDAT", Data: make([]byte, api.MaxInput-21+more)}}
		wantNotJoined(t, more, append(l, of("IEND")...), api.ErrLong)
		wantNotJoined(t, more, append(of("IHDR"), l...), api.ErrLong)
	}
}

// P11.1: one list in many chunks, so that the bytes' number wraps round in 32 bits.
func TestJoinOfOneListManyTimes(t *testing.T) {
	data := make([]byte, 1<<16-12)
	for _, n := range []int{4, 5, 1 << 15, 1<<16 - 1, 1 << 16} {
		l := slices.Repeat([]chunk.Chunk{{Kind: "IDAT", Data: data}}, n)
		wantNotJoined(t, n, l, api.ErrLong)
	}
	l := slices.Repeat([]chunk.Chunk{{Kind: "IDAT", Data: data}}, 3)
	wantJoined(t, 3, l, file(bytes.Repeat(good("IDAT", data...), 3)))
}

// P11.1, R6: a kind is told ahead of too many bytes, wherever either stands.
func TestJoinTellsTheKindFirst(t *testing.T) {
	long := chunk.Chunk{Kind: "IDAT", Data: make([]byte, api.MaxInput)}
	for _, kind := range []string{"", "IDA", "IDATA", "1DAT", "IDA["} {
		bad := chunk.Chunk{Kind: kind}
		wantNotJoined(t, kind, []chunk.Chunk{bad, long}, api.ErrArg)
		wantNotJoined(t, kind, []chunk.Chunk{long, bad}, api.ErrArg)
		wantNotJoined(t, kind, []chunk.Chunk{long, long, bad, long}, api.ErrArg)
		wantNotJoined(t, kind, []chunk.Chunk{{Kind: kind, Data: long.Data}}, api.ErrArg)
	}
	wantNotJoined(t, "kinds that may be", []chunk.Chunk{long, {Kind: "IEND"}}, api.ErrLong)
}

// R4, R5: the chunks are neither changed nor kept, and the same ones are joined the same again.
func TestJoinMemory(t *testing.T) {
	long := chunk.Chunk{Kind: "IDAT", Data: make([]byte, api.MaxInput)}
	for what, parts := range map[string][]chunk.Chunk{
		"none": nil, "well": some(21, 9), "a kind": append(some(22, 3), chunk.Chunk{Kind: "IDA", Data: []byte{1}}), "too long": append(some(23, 2), long),
	} {
		l, whole := spare(deep(parts), chunk.Chunk{Kind: "mark", Data: []byte{1, 2}})
		for i, c := range whole {
			_, room := spare(c.Data, 0xaa)
			whole[i].Data = room[:len(c.Data)]
		}
		before := deep(whole)
		b, e := chunk.Join(l)
		first := bytes.Clone(b)
		scribble(b, 0xee)
		if !alike(whole, before) {
			t.Errorf("%s: the chunks are changed, or shared", what)
		}
		for i, c := range whole {
			if room := c.Data[len(c.Data) : len(c.Data)+3]; !bytes.Equal(room, []byte{0xaa, 0xaa, 0xaa}) {
				t.Errorf("%s: the spare room of chunk %d is changed", what, i)
			}
		}
		again, f := chunk.Join(l)
		scribbleAll(whole)
		if e != f || !bytes.Equal(again, first) {
			t.Errorf("%s: %d bytes, %v; then %d, %v (or those unlike)", what, len(first), e, len(again), f)
		}
	}
}
