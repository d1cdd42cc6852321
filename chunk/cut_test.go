package chunk_test

import (
	"bytes"
	"image"
	"image/color"
	"image/png"
	"slices"
	"testing"

	"engraver/api"
	"engraver/chunk"
)

// P11.1: the chapter's example, and the shortest file.
func TestCutExample(t *testing.T) {
	wantNotCut(t, "the signature alone", []byte(signature), api.ErrShort)
	b := append([]byte(signature), 0, 0, 0, 0, 'I', 'E', 'N', 'D', 0xae, 0x42, 0x60, 0x82)
	wantCut(t, "IEND alone", b, []chunk.Chunk{{Kind: "IEND"}})
}

// P11.1: chunks without data, with data, several of one kind, of kinds that none knows, in any order.
func TestCut(t *testing.T) {
	for what, l := range map[string][]chunk.Chunk{
		"no data":         {{Kind: "abCD"}, {Kind: "IEND"}},
		"one byte":        {{Kind: "abCD", Data: []byte{7}}, {Kind: "IEND"}},
		"many bytes":      {{Kind: "IDAT", Data: noise(1, 70000)}, {Kind: "IEND"}},
		"of one kind":     {{Kind: "IDAT", Data: noise(2, 5)}, {Kind: "IDAT"}, {Kind: "IDAT", Data: noise(3, 300)}, {Kind: "IEND"}},
		"alike":           {{Kind: "zzzz", Data: []byte{1, 2}}, {Kind: "zzzz", Data: []byte{1, 2}}, {Kind: "IEND"}},
		"IEND with data":  {{Kind: "IDAT"}, {Kind: "IEND", Data: []byte{9, 8, 7}}},
		"IEND alone":      {{Kind: "IEND", Data: noise(4, 20)}},
		"almost IEND":     {{Kind: "IENd"}, {Kind: "iEND"}, {Kind: "IEnD"}, {Kind: "IeND"}, {Kind: "iend"}, {Kind: "IEND"}},
		"no order at all": {{Kind: "IDAT"}, {Kind: "tRNS"}, {Kind: "PLTE"}, {Kind: "ABCD"}, {Kind: "IHDR"}, {Kind: "IEND"}},
		"IEND as data":    {{Kind: "IDAT", Data: end()}, {Kind: "IDAT", Data: file(end())}, {Kind: "IEND"}},
	} {
		var parts [][]byte
		for _, c := range l {
			parts = append(parts, good(c.Kind, c.Data...))
		}
		wantCut(t, what, file(parts...), l)
	}
}

// P11.1: files of the library, which come in the order of P11.2 too.
func TestCutOfTheLibrarysFiles(t *testing.T) {
	grey := image.NewGray(image.Rect(0, 0, 30, 20))
	placed := image.NewPaletted(image.Rect(0, 0, 30, 20), color.Palette{color.Black, color.Transparent, color.White})
	deep := image.NewNRGBA64(image.Rect(0, 0, 200, 80))
	copy(deep.Pix, noise(5, len(deep.Pix)))
	for what, c := range map[string]struct {
		picture image.Image
		kinds   []string
	}{
		"grey":   {grey, []string{"IHDR", "IDAT", "IEND"}},
		"placed": {placed, []string{"IHDR", "PLTE", "tRNS", "IDAT", "IEND"}},
		"deep":   {deep, []string{"IHDR", "IDAT", "IEND"}}, // of several IDATs
	} {
		var b bytes.Buffer
		if err := png.Encode(&b, c.picture); err != nil {
			t.Fatal(err)
		}
		l, e := chunk.Cut(b.Bytes())
		var kinds []string
		for _, k := range l {
			kinds = append(kinds, k.Kind)
		}
		if e != api.OK || !slices.Equal(slices.Compact(kinds), c.kinds) {
			t.Errorf("%s: %v, %v; want %v, ok", what, kinds, e, c.kinds)
		}
		wantOrder(t, what, l, api.OK)
		wantJoined(t, what, l, b.Bytes())
	}
}

// P11.1: fewer than eight bytes, whatever they are; fewer than twelve where a chunk should be.
func TestCutOfTooFewBytes(t *testing.T) {
	for n := range len(signature) {
		wantNotCut(t, n, []byte(signature)[:n], api.ErrShort)
		wantNotCut(t, n, make([]byte, n), api.ErrShort)
		wantNotCut(t, n, noise(6, n), api.ErrShort)
	}
	wantNotCut(t, "nil", nil, api.ErrShort)
	for n := range 12 {
		for _, rest := range [][]byte{end()[:n], make([]byte, n), bytes.Repeat([]byte{255}, n), noise(7, n), []byte("0000000000000")[:n]} {
			wantNotCut(t, n, file(rest), api.ErrShort)
			wantNotCut(t, n, file(good("abCD", 1, 2), good("IDAT"), rest), api.ErrShort)
		}
	}
}

// P11.1: each byte of the signature another.
func TestCutOfAnotherSignature(t *testing.T) {
	whole := file(good("IDAT", 1, 2, 3), end())
	for at := range signature {
		for value := range 256 {
			b := bytes.Clone(whole)
			b[at] = byte(value)
			if value == int(signature[at]) {
				continue
			}
			wantNotCut(t, []int{at, value}, b, api.ErrForm)
			wantNotCut(t, []int{at, value}, b[:8], api.ErrForm)
			wantNotCut(t, []int{at, value}, b[:19], api.ErrForm)
		}
	}
	wantCut(t, "its own", whole, []chunk.Chunk{{Kind: "IDAT", Data: []byte{1, 2, 3}}, {Kind: "IEND"}})
}

// P11.1: lengths at 2^31, wherever the chunk stands and whatever it is.
func TestCutOfGreatLengths(t *testing.T) {
	for _, kind := range []string{"IHDR", "IDAT", "IEND", "abcd"} {
		for _, ahead := range [][]byte{nil, good("IHDR"), good("abCD", noise(8, 100)...)} {
			for length, want := range map[uint32]api.Errno{
				1<<31 - 13: api.ErrShort, 1<<31 - 12: api.ErrShort, 1<<31 - 2: api.ErrShort, 1<<31 - 1: api.ErrShort,
				1 << 31: api.ErrForm, 1<<31 + 1: api.ErrForm, 1<<32 - 13: api.ErrForm, 1<<32 - 12: api.ErrForm, 1<<32 - 1: api.ErrForm,
				api.MaxInput: api.ErrShort, api.MaxInput + 1: api.ErrShort, 1 << 24: api.ErrShort, 1 << 16: api.ErrShort,
			} {
				wantNotCut(t, []any{kind, length}, file(ahead, said(length, kind)), want)
				wantNotCut(t, []any{kind, length}, file(ahead, said(length, kind), end()), want)
				wantNotCut(t, []any{kind, length}, file(ahead, said(length, kind, 1, 2, 3), end()), want)
			}
		}
	}
}

// P11.1: a length of each byte: it is told highest byte first.
func TestCutLengths(t *testing.T) {
	for _, n := range []int{0, 1, 2, 255, 256, 257, 65535, 65536, 65537, 131072, 200000} {
		data := noise(n, n)
		b := file(good("IDAT", data...), end())
		wantCut(t, n, b, []chunk.Chunk{{Kind: "IDAT", Data: data}, {Kind: "IEND"}})
	}
}

// P11.1: each byte of a kind none of the letters, its sum right; and the letters beside them.
func TestCutOfKinds(t *testing.T) {
	for at := range 4 {
		for value := range 256 {
			kind := []byte("abCD")
			kind[at] = byte(value)
			b := file(good("IHDR"), good(string(kind), 1, 2), end())
			if bytes.IndexByte([]byte("abcdefghijklmnopqrstuvwxyzABCDEFGHIJKLMNOPQRSTUVWXYZ"), byte(value)) >= 0 {
				wantCut(t, kind, b, []chunk.Chunk{{Kind: "IHDR"}, {Kind: string(kind), Data: []byte{1, 2}}, {Kind: "IEND"}})
				continue
			}
			wantNotCut(t, kind, b, api.ErrForm)
			wantNotCut(t, kind, file(good(string(kind))), api.ErrForm)
		}
	}
}

// P11.1: bytes that end, wherever they do.
func TestCutOfBytesThatEnd(t *testing.T) {
	for _, whole := range [][]byte{
		file(end()),
		file(good("IEND", 1, 2, 3)),
		file(good("IHDR", noise(9, 13)...), good("IDAT", noise(10, 50)...), good("IDAT"), end()),
	} {
		for n := range whole {
			wantNotCut(t, n, whole[:n], api.ErrShort)
		}
	}
	for n := range 40 {
		b := file(said(uint32(n+1), "IDAT", noise(11, n)...))
		wantNotCut(t, n, b, api.ErrShort)
	}
}

// P11.1: each byte of kind, data and sum another, in each of several chunks.
func TestCutOfAnotherSum(t *testing.T) {
	parts := [][]byte{good("IHDR", noise(12, 13)...), good("abCD"), good("IDAT", noise(13, 30)...), good("IEND", 5)}
	from := len(signature)
	for i, part := range parts {
		for at := 4; at < len(part); at++ {
			for bit := range 8 {
				b := file(parts...)
				b[from+at] ^= 1 << bit
				want := api.ErrSum
				if c := b[from+at] | 'a'&^'A'; at < 8 && (c < 'a' || 'z' < c) {
					want = api.ErrForm
				}
				wantNotCut(t, []int{i, at, bit}, b, want)
			}
		}
		from += len(part)
	}
}

// P11.1: the sum is of kind and data, and stands highest byte first.
func TestCutSums(t *testing.T) {
	data := []byte{1, 2, 3}
	right := sumOf("IDAT", data)
	for what, sum := range map[string]uint32{
		"of data alone":    sumOf("", data),
		"of kind alone":    sumOf("IDAT", nil),
		"with the length":  sumOf("\x00\x00\x00\x03IDAT", data),
		"of another kind":  sumOf("IDAt", data),
		"turned over":      ^right,
		"lowest first":     right<<24 | right>>24 | right<<8&0xff0000 | right>>8&0xff00,
		"none":             0,
		"of nothing":       1<<32 - 1,
		"data ahead of it": sumOf("\x01\x02\x03", []byte("IDAT")),
	} {
		wantNotCut(t, what, file(raw(3, "IDAT", data, sum), end()), api.ErrSum)
	}
	wantCut(t, "right", file(raw(3, "IDAT", data, right), end()), []chunk.Chunk{{Kind: "IDAT", Data: data}, {Kind: "IEND"}})
}

// P11.1: bytes behind IEND, whatever they are; none of the kinds beside it ends a file.
func TestCutBehindTheEnd(t *testing.T) {
	for what, left := range map[string][]byte{
		"a byte": {0}, "eleven": make([]byte, 11), "twelve": make([]byte, 12), "IEND again": end(), "IDAT": good("IDAT", 1),
		"spoiled": spoiled("IDAT", 1), "no kind": good("1234"), "too great": said(1<<31, "IDAT"), "a signature": []byte(signature), "noise": noise(14, 1000),
	} {
		wantNotCut(t, what, file(end(), left), api.ErrForm)
		wantNotCut(t, what, file(good("IHDR"), good("IDAT", 1, 2), good("IEND", 3), left), api.ErrForm)
	}
}

// P11.1: without IEND.
func TestCutWithoutTheEnd(t *testing.T) {
	for _, kind := range []string{"IHDR", "IDAT", "iEND", "IENd", "ENDI", "abcd"} {
		wantNotCut(t, kind, file(good(kind)), api.ErrShort)
		wantNotCut(t, kind, file(good(kind, 1, 2, 3)), api.ErrShort)
		wantNotCut(t, kind, file(good("IHDR"), good(kind, end()...)), api.ErrShort)
	}
}

// P11.1: MaxInput bytes, and one more, whatever they are.
func TestCutOfTooManyBytes(t *testing.T) {
	full := noise(15, api.MaxInput-len(signature)-24)
	wantCut(t, "just so many", file(good("IDAT", full...), end()), []chunk.Chunk{{Kind: "IDAT", Data: full}, {Kind: "IEND"}})
	for what, b := range map[string][]byte{
		"well":          file(good("IDAT", append(full, 1)...), end()),
		"a byte behind": file(good("IDAT", full...), end(), []byte{0}),
		"no signature":  make([]byte, api.MaxInput+1),
		"no IEND":       file(good("IDAT", append(full, make([]byte, 13)...)...)),
		"spoiled":       file(spoiled("IDAT", append(full, 1)...), end()),
		"no kind":       file(good("....", append(full, 1)...), end()),
		"by far":        make([]byte, 4*api.MaxInput),
	} {
		wantNotCut(t, what, b, api.ErrLong)
	}
	wantNotCut(t, "so many of no signature", make([]byte, api.MaxInput), api.ErrForm)
	wantNotCut(t, "so many, spoiled", file(spoiled("IDAT", full...), end()), api.ErrSum)
	wantNotCut(t, "so many without IEND", file(good("IDAT", append(full, make([]byte, 12)...)...)), api.ErrShort)
	wantNotCut(t, "so many, a byte behind", file(good("IDAT", full[1:]...), end(), []byte{0}), api.ErrForm)
}

// P11.1: as many chunks as MaxInput bytes hold.
func TestCutOfManyChunks(t *testing.T) {
	n := (api.MaxInput - len(signature)) / 12
	wantCut(t, n, file(bytes.Repeat(good("abCD"), n-1), end()), append(slices.Repeat([]chunk.Chunk{{Kind: "abCD"}}, n-1), chunk.Chunk{Kind: "IEND"}))
	wantNotCut(t, n, file(bytes.Repeat(good("abCD"), n)), api.ErrShort)
}

// P11.1, R6: of two errors the one that is met first.
func TestCutTellsTheFirstError(t *testing.T) {
	wrong := "\x89PNG\r\n\x1a\x0b"
	for what, c := range map[string]struct {
		b    []byte
		want api.Errno
	}{
		"seven of another signature":    {[]byte("\x00PNG\r\n\x1a"), api.ErrShort},
		"another signature, no chunks":  {[]byte(wrong), api.ErrForm},
		"another signature, a sum":      {append([]byte(wrong), spoiled("IDAT")...), api.ErrForm},
		"eleven bytes of a kind":        {file(good("1234")[:11]), api.ErrShort},
		"eleven bytes, too great":       {file(said(1<<31, "IDAT")[:11]), api.ErrShort},
		"a kind, too few bytes":         {file(said(1, "IDA1")), api.ErrForm},
		"a kind, a sum":                 {file(spoiled("IDA1", 1, 2), end()), api.ErrForm},
		"too great, a sum":              {file(raw(1<<31, "IDAT", nil, 0), end()), api.ErrForm},
		"too great, a kind":             {file(said(1<<31, "IDA1"), end()), api.ErrForm},
		"too few bytes, a sum":          {file(raw(4, "IDAT", []byte{1, 2, 3}, 0)), api.ErrShort},
		"a sum, then a kind":            {file(spoiled("IDAT"), good("1234"), end()), api.ErrSum},
		"a sum, then too few":           {file(spoiled("IDAT"), end()[:11]), api.ErrSum},
		"a sum, no IEND":                {file(spoiled("IDAT")), api.ErrSum},
		"a kind, then a sum":            {file(good("1234"), spoiled("IDAT"), end()), api.ErrForm},
		"too few, behind them a sum":    {file(said(100, "IDAT", 1), spoiled("IDAT"), end()), api.ErrShort},
		"a sum of IEND, bytes behind":   {file(spoiled("IEND"), []byte{0}), api.ErrSum},
		"IEND, a sum behind":            {file(end(), spoiled("IDAT")), api.ErrForm},
		"IEND, too few behind":          {file(end(), []byte{0, 0}), api.ErrForm},
		"a sum ahead of IEND and bytes": {file(spoiled("abCD"), end(), []byte{0}), api.ErrSum},
	} {
		wantNotCut(t, what, c.b, c.want)
	}
}

// R1: any bytes behind a signature, and files with any bytes another.
func TestCutOfAnyBytes(t *testing.T) {
	d := dice(16)
	for i := range 3000 {
		if l, e := chunk.Cut(file(noise(i, d.below(60)))); e == api.OK {
			t.Errorf("noise %d: %d chunks", i, len(l))
		}
		whole := file(good("IDAT", noise(i, 10)...), good("abCD"), end())
		b := bytes.Clone(whole)
		for range 1 + d.below(3) {
			b[d.below(len(b))] ^= byte(1 + d.below(255))
		}
		if l, e := chunk.Cut(b); e == api.OK && !bytes.Equal(b, whole) {
			t.Errorf("spoiled %d: %d chunks", i, len(l))
		}
	}
}

// R4: the bytes are neither changed nor kept, and no two lists of an answer share memory.
func TestCutMemory(t *testing.T) {
	want := []chunk.Chunk{{Kind: "IHDR", Data: noise(17, 13)}, {Kind: "abCD"}, {Kind: "IDAT", Data: noise(18, 33)}, {Kind: "IDAT", Data: noise(19, 3)}, {Kind: "IEND", Data: []byte{1}}}
	var parts [][]byte
	for _, c := range want {
		parts = append(parts, good(c.Kind, c.Data...))
	}
	b, whole := spare(file(parts...), 0xaa)
	before := bytes.Clone(whole)
	l, _ := chunk.Cut(b)
	other, _ := chunk.Cut(b)
	scribbleAll(other)
	if !bytes.Equal(whole, before) {
		t.Error("the bytes handed in are changed, or shared")
	}
	scribble(b, 0x55)
	if !alike(l, want) {
		t.Error("an answer shares memory with the bytes, or with another answer")
	}
	for i := range l {
		scribble(l[i].Data, 0xee)
		for j := i + 1; j < len(l); j++ {
			if !bytes.Equal(l[j].Data, want[j].Data) {
				t.Errorf("chunks %d and %d share memory", i, j)
			}
		}
	}
}

// R4, R5: where a file is refused the bytes stay too, and the same bytes tell the same again.
func TestCutAgain(t *testing.T) {
	for _, b := range [][]byte{nil, noise(20, 30), file(), file(spoiled("IDAT", 1)), file(good("IDAT", 1), end()), file(end(), end())} {
		short, whole := spare(b, 0xaa)
		before := bytes.Clone(whole)
		l, e := chunk.Cut(short)
		first := deep(l)
		scribbleAll(l)
		if again, f := chunk.Cut(short); e != f || !alike(again, first) {
			t.Errorf("%d bytes: %d chunks, %v; then %d, %v", len(b), len(first), e, len(again), f)
		}
		if !bytes.Equal(whole, before) {
			t.Errorf("%d bytes are changed", len(b))
		}
	}
}
