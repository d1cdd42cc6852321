package pngread_test

import (
	"encoding/binary"
	"fmt"
	"slices"
	"testing"

	"engraver/api"
	"engraver/chunk"
	"engraver/zlib"
)

// P14.2: chunk.Cut's errors.
func TestDecodeOfWhatIsCut(t *testing.T) {
	b := anyOf(1, pair{8, 6}, 3, 2, true).png()
	wantNone(t, "nothing at all", nil, api.ErrShort)
	for n := range b {
		wantNone(t, fmt.Sprint("cut at ", n), b[:n], api.ErrShort)
	}
	wantNone(t, "a byte behind it", append(slices.Clone(b), 0), api.ErrForm)
	for i := range 8 {
		c := slices.Clone(b)
		c[i] ^= 0x20
		wantNone(t, fmt.Sprint("another signature at ", i), c, api.ErrForm)
	}
	for i := 16; i < 33; i++ { // IHDR's data and its sum
		c := slices.Clone(b)
		c[i] ^= 1
		wantNone(t, fmt.Sprint("a wrong sum by the byte at ", i), c, api.ErrSum)
	}
	wantNone(t, "too many bytes", append(slices.Clone(b), make([]byte, api.MaxInput)...), api.ErrLong)
}

// P14.2: a file may have MaxInput bytes.
func TestDecodeOfLongFiles(t *testing.T) {
	p := anyOf(1, pair{8, 2}, 3, 2, false)
	l := p.ahead()
	z := zlib.Close(p.data(unfiltered))
	behind := []chunk.Chunk{{Kind: "IDAT", Data: z}, {Kind: "IEND"}}
	room := api.MaxInput - len(join(append(p.ahead(), behind...)...)) - 12
	l = append(append(l, chunk.Chunk{Kind: "fill", Data: make([]byte, room)}), behind...)
	b := join(l...)
	if len(b) != api.MaxInput {
		t.Fatalf("the test's file has %d bytes", len(b))
	}
	wantPicture(t, "as many as may be", b, p.raster())
	wantNone(t, "one more", append(b, 0), api.ErrLong)
}

// P14.2: chunk.Order's error.
func TestDecodeOfOtherOrders(t *testing.T) {
	p := anyOf(1, pair{4, 3}, 5, 2, false)
	p.trns = []byte{1, 2}
	z := zlib.Close(p.data(unfiltered))
	ihdr, plte, trns := p.ahead()[0], p.ahead()[1], p.ahead()[2]
	idat, end := chunk.Chunk{Kind: "IDAT", Data: z}, chunk.Chunk{Kind: "IEND"}
	text := chunk.Chunk{Kind: "tEXt"}
	wantPicture(t, "the right order", join(ihdr, plte, trns, idat, end), p.raster())
	for what, l := range map[string][]chunk.Chunk{
		"no IHDR":                 {plte, trns, idat, end},
		"IHDR is not the first":   {text, ihdr, plte, trns, idat, end},
		"two of IHDR":             {ihdr, ihdr, plte, trns, idat, end},
		"IHDR too short":          {{Kind: "IHDR", Data: ihdr.Data[:12]}, plte, trns, idat, end},
		"IHDR too long":           {{Kind: "IHDR", Data: append(slices.Clone(ihdr.Data), 0)}, plte, trns, idat, end},
		"IEND with data":          {ihdr, plte, trns, idat, {Kind: "IEND", Data: []byte{0}}},
		"no IDAT":                 {ihdr, plte, trns, end},
		"a kind between IDATs":    {ihdr, plte, trns, {Kind: "IDAT", Data: z[:4]}, text, {Kind: "IDAT", Data: z[4:]}, end},
		"two of PLTE":             {ihdr, plte, plte, trns, idat, end},
		"two of tRNS":             {ihdr, plte, trns, trns, idat, end},
		"PLTE behind the data":    {ihdr, idat, plte, end},
		"tRNS behind the data":    {ihdr, plte, idat, trns, end},
		"tRNS ahead of the PLTE":  {ihdr, trns, plte, idat, end},
		"a capital kind":          {ihdr, plte, trns, {Kind: "ABCD"}, idat, end},
		"a capital kind behind":   {ihdr, plte, trns, idat, {Kind: "Abcd"}, end},
		"IEND alone":              {end},
		"PLTE and the end":        {plte, end},
		"IHDR and the end":        {ihdr, end},
		"the data ahead of it":    {idat, ihdr, plte, trns, end},
		"IDAT on both PLTE sides": {ihdr, {Kind: "IDAT"}, plte, trns, idat, end},
	} {
		wantNone(t, what, join(l...), api.ErrForm)
	}
}

// P14.2: Read's errors.
func TestDecodeOfOtherHeads(t *testing.T) {
	p := anyOf(1, pair{8, 2}, 3, 2, false)
	idat := chunk.Chunk{Kind: "IDAT", Data: zlib.Close(p.data(unfiltered))}
	of := func(b []byte) []byte {
		return join(chunk.Chunk{Kind: "IHDR", Data: b}, idat, chunk.Chunk{Kind: "IEND"})
	}
	wantPicture(t, "the right head", of(head(3, 2, 8, 2, 0, 0, 0)), p.raster())
	for depth := range 18 {
		for colour := range 8 {
			if !slices.Contains(pairs, pair{depth, colour}) {
				wantNone(t, fmt.Sprint(depth, " bits of Colour ", colour), of(head(3, 2, byte(depth), byte(colour), 0, 0, 0)), api.ErrForm)
			}
		}
	}
	wantNone(t, "another compression", of(head(3, 2, 8, 2, 1, 0, 0)), api.ErrForm)
	wantNone(t, "another filter", of(head(3, 2, 8, 2, 0, 255, 0)), api.ErrForm)
	wantNone(t, "another interlace", of(head(3, 2, 8, 2, 0, 0, 2)), api.ErrForm)
	wantNone(t, "no pixels across", of(head(0, 2, 8, 2, 0, 0, 0)), api.ErrForm)
	wantNone(t, "no pixels down", of(head(3, 0, 8, 2, 0, 0, 0)), api.ErrForm)
	wantNone(t, "too wide", of(head(257, 2, 8, 2, 0, 0, 0)), api.ErrSize)
	wantNone(t, "too high", of(head(3, 257, 8, 2, 0, 0, 0)), api.ErrSize)
	wantNone(t, "too many pixels", of(head(128, 129, 8, 2, 0, 0, 0)), api.ErrSize)
	wantNone(t, "far too many pixels", of(head(1<<31, 1<<31, 8, 2, 0, 0, 0)), api.ErrSize)
}

// P14.2: which PLTEs may stand beside which Depth and Colour.
func TestDecodePalettes(t *testing.T) {
	lengths := []int{0, 1, 2, 3, 4, 5, 6, 7, 9, 11, 12, 13, 15, 45, 48, 49, 51, 765, 766, 767, 768, 769, 770, 771, 774, 3 * 65536}
	for _, of := range pairs {
		p := anyOf(1, of, 4, 3, false)
		p.dots = make([]dot, 12) // the first colour is always there
		for _, n := range lengths {
			p.plte = noise(n, n)
			may := n%3 == 0 && n >= 3 && n <= 768
			switch of.colour {
			case 0, 4:
				may = false
			case 3:
				may = may && n <= 3<<of.depth
			}
			if what := fmt.Sprint(of, " with a PLTE of ", n); may {
				wantPicture(t, what, p.png(), p.raster())
			} else {
				wantNone(t, what, p.png(), api.ErrForm)
			}
		}
		p.plte = nil
		if of.colour == 3 {
			wantNone(t, fmt.Sprint(of, " with no PLTE"), p.png(), api.ErrForm)
		} else {
			wantPicture(t, fmt.Sprint(of, " with no PLTE"), p.png(), p.raster())
		}
	}
}

// P14.2: which tRNS may stand beside which Colour and PLTE.
func TestDecodeTransparencies(t *testing.T) {
	for _, of := range pairs {
		p := anyOf(1, of, 4, 3, false)
		p.dots = make([]dot, 12)
		for _, colours := range []int{0, 1, 2, 3, 6, 7, 16, 255, 256} {
			switch {
			case of.colour == 3 && (colours < 1 || colours > 1<<of.depth):
				continue
			case of.colour != 3 && colours > 0 && of.colour != 2 && of.colour != 6:
				continue
			}
			p.plte = nil
			if colours > 0 {
				p.plte = noise(colours, 3*colours)
			}
			for _, n := range []int{0, 1, 2, 3, 4, 5, 6, 7, 8, 12, 15, 16, 17, 255, 256, 257, 768} {
				p.trns = noise(n, n)
				may := map[int]bool{0: n == 2, 2: n == 6, 3: n <= colours}[of.colour]
				if what := fmt.Sprint(of, " of ", colours, " colours with a tRNS of ", n); may {
					wantPicture(t, what, p.png(), p.raster())
				} else {
					wantNone(t, what, p.png(), api.ErrForm)
				}
			}
		}
	}
}

// P14.2: zlib.Open's errors of the data of all IDATs together.
func TestDecodeOfBrokenStreams(t *testing.T) {
	for _, of := range pairs {
		for _, laced := range []bool{false, true} {
			p := anyOf(2, of, 5, 3, laced)
			z := zlib.Close(p.data(turns(1)))
			what := fmt.Sprint(of, laced)
			for n := range z {
				wantNone(t, fmt.Sprint(what, " cut at ", n), p.file(z[:n]), api.ErrShort)
			}
			wantNone(t, what+" in an empty IDAT", p.file(nil), api.ErrShort)
			wantNone(t, what+" in empty IDATs", p.file(nil, nil, nil), api.ErrShort)
			for i := len(z) - 4; i < len(z); i++ {
				bad := slices.Clone(z)
				bad[i] ^= 0x10
				wantNone(t, what+" of a wrong sum", p.file(bad[:7], bad[7:]), api.ErrSum)
			}
			wantNone(t, what+" with a byte behind it", p.file(append(slices.Clone(z), 0)), api.ErrForm)
			wantNone(t, what+" with an IDAT behind it", p.file(z, []byte{0}), api.ErrForm)
			bad := slices.Clone(z)
			bad[0] ^= 1
			wantNone(t, what+" of another method", p.file(bad), api.ErrForm)
			wantNone(t, what+" of a block that is none", p.file([]byte{0x78, 0x01, 0x07, 0, 0, 0, 0, 1}), api.ErrForm)
		}
	}
}

// P14.2: ErrSize of more bytes than the passes have, ErrShort of fewer, also of none at all.
func TestDecodeOfOtherNumbersOfBytes(t *testing.T) {
	for _, of := range pairs {
		for w := 1; w <= 9; w += 2 {
			for h := 1; h <= 9; h++ {
				for _, laced := range []bool{false, true} {
					p := anyOf(2, of, w, h, laced)
					rows := p.data(turns(w))
					what := fmt.Sprint(of, w, h, laced)
					wantNone(t, what+" and a byte more", p.packed(append(slices.Clone(rows), 0)), api.ErrSize)
					wantNone(t, what+" and many more", p.packed(append(slices.Clone(rows), noise(1, 3000)...)), api.ErrSize)
					wantNone(t, what+" less a byte", p.packed(rows[:len(rows)-1]), api.ErrShort)
					wantNone(t, what+" half of it", p.packed(rows[:len(rows)/2]), api.ErrShort)
					wantNone(t, what+" a byte", p.packed(rows[:1]), api.ErrShort)
					wantNone(t, what+" nothing", p.packed(nil), api.ErrShort)
				}
			}
		}
	}
}

// P14.2: a stream that would be very long is refused as soon as it is longer than the passes.
func TestDecodeOfALongStream(t *testing.T) {
	p := anyOf(1, pair{8, 0}, 1, 1, false)
	wantNone(t, "a million bytes", p.packed(make([]byte, 1<<20)), api.ErrSize)
}

// P14.2: a filter above 4 in any row of any pass.
func TestDecodeOfOtherFilters(t *testing.T) {
	for _, of := range pairs {
		for _, laced := range []bool{false, true} {
			p := anyOf(3, of, 7, 9, laced)
			rows := p.data(turns(2))
			at := 0
			for _, pass := range p.lines() {
				for y, line := range pass {
					for _, kind := range []byte{5, 6, 8, 127, 128, 254, 255} {
						bad := slices.Clone(rows)
						bad[at] = kind
						wantNone(t, fmt.Sprint(of, laced, " filter ", kind, " in row ", y, " at ", at), p.packed(bad), api.ErrForm)
					}
					at += 1 + len(p.plain(line))
				}
			}
			if at != len(rows) {
				t.Fatalf("the test's own rows end at %d of %d", at, len(rows))
			}
		}
	}
}

// P14.2: a place that is no colour, in any pixel, by any filter; the last colour's place is one.
func TestDecodePlacesThatAreNone(t *testing.T) {
	for _, depth := range []int{1, 2, 4, 8} {
		for _, colours := range []int{1, 2, 3, 15, 200, 255} {
			if colours >= 1<<depth {
				continue
			}
			for _, laced := range []bool{false, true} {
				p := anyOf(depth, pair{depth, 3}, 9, 4, laced)
				p.plte = noise(colours, 3*colours)
				for i := range p.dots {
					p.dots[i][0] = p.dots[i][0] % colours
				}
				for i := range p.dots {
					was := p.dots[i]
					for _, v := range []int{colours, 1<<depth - 1} {
						p.dots[i][0] = v
						wantNone(t, fmt.Sprint(depth, " bits, place ", v, " of ", colours, " in pixel ", i, laced), p.packed(p.data(turns(i))), api.ErrForm)
					}
					p.dots[i][0] = colours - 1
					wantPicture(t, fmt.Sprint(depth, " bits, the last of ", colours, " in pixel ", i, laced), p.packed(p.data(turns(i))), p.raster())
					p.dots[i] = was
				}
			}
		}
	}
}

// P14.2: a row with a place that is none ahead of a row with a wrong filter, and behind it: ErrForm either way.
func TestDecodePlaceAndFilter(t *testing.T) {
	p := picture{pair: pair{8, 3}, w: 2, h: 2, plte: []byte{1, 2, 3}}
	wantPicture(t, "neither", p.packed([]byte{0, 0, 0, 0, 0, 0}), api.Raster{W: 2, H: 2, Pix: []uint16{257, 514, 771, 65535, 257, 514, 771, 65535, 257, 514, 771, 65535, 257, 514, 771, 65535}})
	wantNone(t, "a place, then a filter", p.packed([]byte{0, 0, 1, 5, 0, 0}), api.ErrForm)
	wantNone(t, "a filter, then a place", p.packed([]byte{5, 0, 0, 0, 0, 1}), api.ErrForm)
	wantNone(t, "both in one row", p.packed([]byte{0, 0, 0, 5, 1, 0}), api.ErrForm)
	wantNone(t, "a place that comes by a filter", p.packed([]byte{1, 0, 0, 1, 0, 1}), api.ErrForm)
	wantPicture(t, "a byte that is no place, by a filter", p.packed([]byte{0, 0, 0, 2, 0, 0}), api.Raster{W: 2, H: 2, Pix: []uint16{257, 514, 771, 65535, 257, 514, 771, 65535, 257, 514, 771, 65535, 257, 514, 771, 65535}})
}

// broken is a file with any of the faults of P14.2 in it.
type broken struct {
	head   []byte
	plte   []byte
	trns   []byte
	more   []chunk.Chunk
	rows   []byte
	stream func([]byte) []byte
	whole  func([]byte) []byte
}

// sound answers a file without a fault: two pixels by two of places.
func sound() *broken {
	same := func(b []byte) []byte { return b }
	return &broken{head: head(2, 2, 8, 3, 0, 0, 0), plte: noise(1, 9), trns: noise(2, 2), rows: []byte{0, 0, 1, 0, 2, 0}, stream: same, whole: same}
}

func (f *broken) bytes() []byte {
	l := []chunk.Chunk{{Kind: "IHDR", Data: f.head}, {Kind: "PLTE", Data: f.plte}, {Kind: "tRNS", Data: f.trns}}
	l = append(l, f.more...)
	l = append(l, chunk.Chunk{Kind: "IDAT", Data: f.stream(zlib.Close(f.rows))}, chunk.Chunk{Kind: "IEND"})
	return f.whole(join(l...))
}

// fault spoils a file. The steps are those of P14.2: of two faults in one of them another chapter says which is told.
type fault struct {
	step int
	what string
	do   func(*broken)
	want api.Errno
}

func faults() []fault {
	return []fault{
		{0, "too many bytes", func(f *broken) {
			f.whole = func(b []byte) []byte { return append(slices.Clone(b), make([]byte, api.MaxInput)...) }
		}, api.ErrLong},
		{0, "another signature", func(f *broken) {
			f.whole = func(b []byte) []byte { return append([]byte("GIF89a.."), b[8:]...) }
		}, api.ErrForm},
		{0, "an end that is missing", func(f *broken) { f.whole = func(b []byte) []byte { return b[:len(b)-1] } }, api.ErrShort},
		{0, "a wrong CRC", func(f *broken) {
			f.whole = func(b []byte) []byte { return append(slices.Clone(b[:len(b)-1]), b[len(b)-1]^1) }
		}, api.ErrSum},
		{1, "a capital kind", func(f *broken) { f.more = []chunk.Chunk{{Kind: "ABCD"}} }, api.ErrForm},
		{1, "a second PLTE", func(f *broken) { f.more = []chunk.Chunk{{Kind: "PLTE", Data: noise(1, 9)}} }, api.ErrForm},
		{2, "too wide", func(f *broken) { f.head[2] = 2 }, api.ErrSize},
		{2, "a Colour 5", func(f *broken) { f.head[9] = 5 }, api.ErrForm},
		{3, "a PLTE of no colours", func(f *broken) { f.plte, f.trns = nil, nil }, api.ErrForm},
		{3, "a PLTE of 257 colours", func(f *broken) { f.plte = noise(1, 771) }, api.ErrForm},
		{4, "a tRNS too long", func(f *broken) { f.trns = noise(1, 300) }, api.ErrForm},
		{5, "a stream too short", func(f *broken) { f.stream = func(b []byte) []byte { return b[:len(b)-5] } }, api.ErrShort},
		{5, "a wrong sum", func(f *broken) {
			f.stream = func(b []byte) []byte { return append(slices.Clone(b[:len(b)-1]), b[len(b)-1]^1) }
		}, api.ErrSum},
		{5, "bytes too many", func(f *broken) { f.rows = append(f.rows, 0, 0) }, api.ErrSize},
		{6, "a byte less", func(f *broken) { f.rows = f.rows[:5] }, api.ErrShort},
		{7, "a filter of 5", func(f *broken) { f.rows[0] = 5 }, api.ErrForm},
		{7, "a place that is none", func(f *broken) { f.rows[2] = 3 }, api.ErrForm},
	}
}

// P14.2, R6: of two faults it is the one that the promise names first.
func TestDecodeTellsTheFirstError(t *testing.T) {
	p := picture{pair: pair{8, 3}, w: 2, h: 2, plte: noise(1, 9), trns: noise(2, 2), dots: []dot{{0}, {1}, {2}, {0}}}
	wantPicture(t, "a sound file", sound().bytes(), p.raster())
	for _, a := range faults() {
		f := sound()
		a.do(f)
		wantNone(t, a.what, f.bytes(), a.want)
		for _, b := range faults() {
			if a.step >= b.step {
				continue
			}
			f := sound()
			b.do(f)
			a.do(f)
			wantNone(t, a.what+", and "+b.what, f.bytes(), a.want)
		}
	}
}

// P14.2: zlib.Open has its own order: bytes that are too many are met ahead of the sum, and one that is missing behind them.
func TestDecodeOfTwoFaultsInAStream(t *testing.T) {
	p := anyOf(1, pair{8, 0}, 3, 2, false)
	rows := p.data(unfiltered)
	more, less := zlib.Close(append(slices.Clone(rows), 0)), zlib.Close(rows[:len(rows)-1])
	wantNone(t, "more, cut", p.file(more[:len(more)-2]), api.ErrSize)
	wantNone(t, "less, cut", p.file(less[:len(less)-2]), api.ErrShort)
	more[len(more)-1] ^= 1
	less[len(less)-1] ^= 1
	wantNone(t, "more, and a wrong sum", p.file(more), api.ErrSize)
	wantNone(t, "less, and a wrong sum", p.file(less), api.ErrSum)
	wantNone(t, "less, and bytes behind it", p.file(less, []byte{1, 2}), api.ErrForm)
}

// R1, R2: whatever a file's chunks hold, an answer is a picture of the head's sides or an error and none.
func TestDecodeOfAnyBytes(t *testing.T) {
	d := dice(77)
	read := 0
	for n := range 6000 {
		p := anyOf(n, pairs[d.below(len(pairs))], 1+d.below(6), 1+d.below(6), d.below(2) == 1)
		if d.below(3) == 0 {
			p.trns = noise(n, d.below(8))
		}
		if d.below(4) == 0 {
			p.plte = noise(n, 3*d.below(6))
		}
		rows := p.data(turns(n))
		for range d.below(3) {
			rows[d.below(len(rows))] = byte(d.below(256))
		}
		l := p.ahead()
		if d.below(4) == 0 {
			l[0].Data[d.below(13)] = byte(d.below(17))
		}
		z := zlib.Close(rows)
		for range d.below(2) {
			z[d.below(len(z))] = byte(d.below(256))
		}
		b := join(append(l, chunk.Chunk{Kind: "IDAT", Data: z}, chunk.Chunk{Kind: "IEND"})...)
		if wantEither(t, b) {
			read++
		}
		b[d.below(len(b))] ^= byte(1 + d.below(255))
		wantEither(t, b)
		wantEither(t, noise(n, d.below(200)))
	}
	if read < 500 {
		t.Errorf("just %d of the test's files were read", read)
	}
}

// wantEither asks for a picture of the head's sides, or an error and none, twice the same; and tells which.
func wantEither(t *testing.T, b []byte) bool {
	t.Helper()
	r, e := decodeTwice(t, b)
	if e != api.OK {
		if r.W != 0 || r.H != 0 || len(r.Pix) != 0 {
			t.Errorf("% x: %v beside %v", b, e, r)
		}
		return false
	}
	w, h := int(binary.BigEndian.Uint32(b[16:])), int(binary.BigEndian.Uint32(b[20:]))
	if r.W != w || r.H != h || len(r.Pix) != 4*w*h {
		t.Errorf("% x: %d by %d of %d samples, want %d by %d", b, r.W, r.H, len(r.Pix), w, h)
	}
	return true
}
