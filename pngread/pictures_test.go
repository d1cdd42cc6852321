package pngread_test

import (
	"bytes"
	"fmt"
	"image"
	"image/color"
	"image/png"
	"testing"

	"engraver/api"
	"engraver/chunk"
	"engraver/zlib"
)

// P14.3: a few pictures written out.
func TestPicturesOfAFew(t *testing.T) {
	for _, c := range []struct {
		what string
		p    picture
		rows []byte
		want []uint16
	}{
		{"1 bit", picture{pair: pair{1, 0}, w: 3, h: 1}, []byte{0, 0xa0}, []uint16{65535, 65535, 65535, 65535, 0, 0, 0, 65535, 65535, 65535, 65535, 65535}},
		{"2 bits", picture{pair: pair{2, 0}, w: 2, h: 1}, []byte{0, 0x60}, []uint16{21845, 21845, 21845, 65535, 43690, 43690, 43690, 65535}},
		{"4 bits", picture{pair: pair{4, 0}, w: 2, h: 1}, []byte{0, 0x1e}, []uint16{4369, 4369, 4369, 65535, 61166, 61166, 61166, 65535}},
		{"16 bits", picture{pair: pair{16, 0}, w: 1, h: 1}, []byte{0, 0x12, 0x34}, []uint16{0x1234, 0x1234, 0x1234, 65535}},
		{"grey and alpha", picture{pair: pair{8, 4}, w: 1, h: 2}, []byte{0, 5, 6, 2, 1, 250}, []uint16{1285, 1285, 1285, 1542, 1542, 1542, 1542, 0}},
		{"colours", picture{pair: pair{8, 2}, w: 1, h: 1}, []byte{0, 1, 2, 3}, []uint16{257, 514, 771, 65535}},
		{"colours and alpha", picture{pair: pair{16, 6}, w: 1, h: 1}, []byte{4, 1, 2, 3, 4, 5, 6, 7, 8}, []uint16{258, 772, 1286, 1800}},
		{"places", picture{pair: pair{2, 3}, w: 2, h: 1, plte: []byte{1, 2, 3, 4, 5, 6}, trns: []byte{7}}, []byte{0, 0x1f}, []uint16{257, 514, 771, 1799, 1028, 1285, 1542, 65535}},
	} {
		wantPicture(t, c.what, c.p.packed(c.rows), api.Raster{W: c.p.w, H: c.p.h, Pix: c.want})
	}
}

// P14.2, P14.3: each Depth and Colour, in one pass and in seven, at sides from 1 to 9 across and down, each filter in the first row and behind another one.
func TestPicturesOfAllSidesAndFilters(t *testing.T) {
	for _, of := range pairs {
		for w := 1; w <= 9; w++ {
			for h := 1; h <= 9; h++ {
				for _, laced := range []bool{false, true} {
					p := anyOf(100*w+h, of, w, h, laced)
					p.fill = w * 41
					first := w + 3*h
					wantPicture(t, fmt.Sprint(of, w, h, laced), p.packed(p.data(turns(first))), p.raster())
				}
			}
		}
	}
}

// P14.2: each filter in each row, whatever the one behind and ahead of it; a pass begins with noughts above.
func TestPicturesOfEachFilter(t *testing.T) {
	for _, of := range pairs {
		for _, laced := range []bool{false, true} {
			p := anyOf(7, of, 11, 10, laced)
			for kind := range 5 {
				wantPicture(t, fmt.Sprint(of, laced, "by ", kind), p.packed(p.data(func(int) int { return kind })), p.raster())
				wantPicture(t, fmt.Sprint(of, laced, "from ", kind, " on"), p.packed(p.data(turns(kind))), p.raster())
			}
			for seed := range 20 {
				d := dice(seed)
				kinds := make([]int, p.sum())
				for i := range kinds {
					kinds[i] = d.below(5)
				}
				wantPicture(t, fmt.Sprint(of, laced, kinds), p.packed(p.data(func(n int) int { return kinds[n] })), p.raster())
			}
		}
	}
}

// P14.2: pictures as great as may be.
func TestPicturesAtTheLimits(t *testing.T) {
	for _, s := range [][2]int{{256, 64}, {64, 256}, {128, 128}, {256, 1}, {1, 256}} {
		for _, of := range []pair{{1, 0}, {16, 6}, {8, 3}, {4, 3}} {
			for _, laced := range []bool{false, true} {
				p := anyOf(s[0], of, s[0], s[1], laced)
				wantPicture(t, fmt.Sprint(s, of, laced), p.packed(p.data(turns(1))), p.raster())
			}
		}
	}
}

// P14.2: what is left of a row's last byte is not looked at.
func TestPicturesWithBitsLeft(t *testing.T) {
	for _, of := range []pair{{1, 0}, {2, 0}, {4, 0}, {1, 3}, {2, 3}, {4, 3}} {
		for w := 1; w <= 9; w++ {
			for fill := range 256 {
				p := anyOf(w, of, w, 2, fill%2 == 1)
				if of.colour == 3 {
					p.plte = p.plte[:3]
					p.dots = make([]dot, len(p.dots))
				}
				p.fill = fill
				wantPicture(t, fmt.Sprint(of, w, fill), p.packed(p.data(turns(fill))), p.raster())
			}
		}
	}
}

// P14.2: the data of all IDATs is one stream, whatever piece of it stands in each; some may be empty.
func TestPicturesInPieces(t *testing.T) {
	for _, laced := range []bool{false, true} {
		p := anyOf(3, pair{8, 2}, 5, 4, laced)
		z := zlib.Close(p.data(turns(2)))
		for cut := range len(z) + 1 {
			wantPicture(t, fmt.Sprint("cut at ", cut), p.file(z[:cut], z[cut:]), p.raster())
			wantPicture(t, fmt.Sprint("cut at ", cut, " with empty ones"), p.file(nil, z[:cut], nil, nil, z[cut:], nil), p.raster())
		}
		for size := 1; size < 9; size++ {
			var pieces [][]byte
			for from := 0; from < len(z); from += size {
				pieces = append(pieces, z[from:min(from+size, len(z))])
			}
			wantPicture(t, fmt.Sprint("pieces of ", size), p.file(pieces...), p.raster())
		}
	}
}

// P14.2: kinds that are not known are passed over where chunk.Order takes them, wherever they stand.
func TestPicturesWithOtherChunks(t *testing.T) {
	p := anyOf(5, pair{4, 3}, 6, 3, false)
	p.trns = noise(9, 11)
	idat := chunk.Chunk{Kind: "IDAT", Data: zlib.Close(p.data(turns(3)))}
	good := append(p.ahead(), idat, chunk.Chunk{Kind: "IEND"})
	for at := 1; at < len(good); at++ {
		for _, kind := range []string{"gAMA", "tEXt", "pHYs", "abcd", "zZZZ", "iDAT", "pLTE", "trns", "iend", "ihdr"} {
			l := append([]chunk.Chunk{}, good[:at]...)
			l = append(l, chunk.Chunk{Kind: kind, Data: noise(at, 20)})
			wantPicture(t, fmt.Sprint(kind, " at ", at), join(append(l, good[at:]...)...), p.raster())
		}
		for _, kind := range []string{"ABCD", "Abcd", "Idat", "Plte", "TRNS"} {
			l := append([]chunk.Chunk{}, good[:at]...)
			l = append(l, chunk.Chunk{Kind: kind})
			wantNone(t, fmt.Sprint(kind, " at ", at), join(append(l, good[at:]...)...), api.ErrForm)
		}
	}
}

// P14.3: a palette beside Colours 2 and 6 says nothing.
func TestPicturesWithAPaletteUnasked(t *testing.T) {
	for _, of := range []pair{{8, 2}, {16, 2}, {8, 6}, {16, 6}} {
		for _, n := range []int{1, 2, 17, 256} {
			p := anyOf(n, of, 4, 3, true)
			p.plte = noise(n, 3*n)
			wantPicture(t, fmt.Sprint(of, n), p.png(), p.raster())
		}
	}
}

// ofLibrary answers a pixel's samples as the library's color tells them.
func ofLibrary(c color.Color) [4]uint16 {
	switch c := c.(type) {
	case color.NRGBA64:
		return [4]uint16{c.R, c.G, c.B, c.A}
	case color.NRGBA:
		return [4]uint16{257 * uint16(c.R), 257 * uint16(c.G), 257 * uint16(c.B), 257 * uint16(c.A)}
	}
	r, g, b, a := c.RGBA() // of what has no alpha but the greatest
	return [4]uint16{uint16(r), uint16(g), uint16(b), uint16(a)}
}

// libraryRaster answers what image/png reads a file as.
func libraryRaster(t *testing.T, b []byte) api.Raster {
	t.Helper()
	m, err := png.Decode(bytes.NewReader(b))
	if err != nil {
		t.Fatalf("the library does not read it: %v", err)
	}
	r := api.Raster{W: m.Bounds().Dx(), H: m.Bounds().Dy()}
	for y := range r.H {
		for x := range r.W {
			s := ofLibrary(m.At(x, y))
			r.Pix = append(r.Pix, s[:]...)
		}
	}
	return r
}

// P14.3: the same files are read by the library as the same pictures.
func TestPicturesAsTheLibraryReadsThem(t *testing.T) {
	for _, of := range pairs {
		for _, laced := range []bool{false, true} {
			for seed := range 12 {
				d := dice(seed)
				p := anyOf(seed, of, 1+d.below(20), 1+d.below(20), laced)
				switch {
				case of.colour == 3 && seed%2 == 0:
					p.trns = noise(seed, 1+d.below(1<<of.depth))
				case (of.colour == 0 || of.colour == 2) && seed%2 == 0:
					p.trns = keyOf(p, p.dots[d.below(len(p.dots))])
				}
				b := p.packed(p.data(turns(seed)))
				wantPicture(t, fmt.Sprint(of, laced, seed), b, libraryRaster(t, b))
			}
		}
	}
}

// P14.2, P14.3: files that the library writes.
func TestPicturesThatTheLibraryWrites(t *testing.T) {
	const w, h = 23, 17
	box := image.Rect(0, 0, w, h)
	grey, deepGrey := image.NewGray(box), image.NewGray16(box)
	open, deepOpen := image.NewNRGBA(box), image.NewNRGBA64(box)
	copy(grey.Pix, noise(1, len(grey.Pix)))
	copy(deepGrey.Pix, noise(2, len(deepGrey.Pix)))
	copy(open.Pix, noise(3, len(open.Pix)))
	copy(deepOpen.Pix, noise(4, len(deepOpen.Pix)))
	shut, deepShut := image.NewNRGBA(box), image.NewNRGBA64(box)
	for y := range h {
		for x := range w {
			c := open.NRGBAAt(x, y)
			c.A = 255
			shut.SetNRGBA(x, y, c)
			deep := deepOpen.NRGBA64At(x, y)
			deep.A = 65535
			deepShut.SetNRGBA64(x, y, deep)
		}
	}
	images := []image.Image{grey, deepGrey, open, deepOpen, shut, deepShut}
	for _, n := range []int{2, 4, 16, 256} {
		images = append(images, paletted(box, n, false), paletted(box, n, true))
	}
	for i, m := range images {
		want := api.Raster{W: w, H: h}
		for y := range h {
			for x := range w {
				s := ofLibrary(m.At(x, y))
				want.Pix = append(want.Pix, s[:]...)
			}
		}
		for _, level := range []png.CompressionLevel{png.NoCompression, png.BestSpeed, png.DefaultCompression, png.BestCompression} {
			var out bytes.Buffer
			if err := (&png.Encoder{CompressionLevel: level}).Encode(&out, m); err != nil {
				t.Fatal(err)
			}
			wantPicture(t, fmt.Sprintf("image %d, a %T", i, m), out.Bytes(), want)
		}
	}
}

// paletted answers an image of n colours, some of them clear or half so.
func paletted(box image.Rectangle, n int, clearOnes bool) *image.Paletted {
	b := noise(n, 4*n)
	var l color.Palette
	for i := range n {
		c := color.NRGBA{b[4*i], b[4*i+1], b[4*i+2], 255}
		if clearOnes && i%3 == 0 {
			c.A = b[4*i+3]
		}
		l = append(l, c)
	}
	m := image.NewPaletted(box, l)
	for i, v := range noise(n+1, len(m.Pix)) {
		m.Pix[i] = byte(int(v) % n)
	}
	return m
}
