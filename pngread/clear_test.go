package pngread_test

import (
	"fmt"
	"testing"

	"engraver/api"
)

// keyOf answers the tRNS by which pixels of these samples are clear.
func keyOf(p picture, d dot) []byte {
	var b []byte
	for j := range parts[p.colour] {
		b = append(b, byte(d[j]>>8), byte(d[j]))
	}
	return b
}

// clearAt answers the picture that should be read where just one pixel is clear.
func (p picture) clearAt(i int) api.Raster {
	want := p.raster()
	for j := range p.dots {
		want.Pix[4*j+3] = 65535
	}
	want.Pix[4*i+3] = 0
	return want
}

// P14.3: a grey is clear just where it is the tRNS's lowest Depth bits; those above them don't count.
func TestClearGreys(t *testing.T) {
	for _, depth := range []int{1, 2, 4, 8} {
		p := picture{pair: pair{depth, 0}, w: 1 << depth, h: 1}
		for v := range 1 << depth {
			p.dots = append(p.dots, dot{v})
		}
		for v := range 1 << depth {
			for _, above := range []int{0, 1, 0xffff, 0x5a5a, 0xa5a5, 0x8000 >> depth} {
				p.trns = keyOf(p, dot{(v | above<<depth) & 0xffff})
				want := p.raster()
				for i := range p.dots {
					if clear := want.Pix[4*i+3] == 0; clear != (i == v) {
						t.Fatalf("the test's own model has %d clear at % x of %d bits: %v", i, p.trns, depth, clear)
					}
				}
				wantPicture(t, fmt.Sprintf("% x of %d bits", p.trns, depth), p.png(), want)
			}
		}
	}
}

// P14.3: a sample of 16 bits is held against both bytes.
func TestClearSamplesOf16Bits(t *testing.T) {
	p := picture{pair: pair{16, 0}, w: 9, h: 1, dots: []dot{{0x0102}, {0x0103}, {0x0002}, {0x0100}, {0x0202}, {0x0201}, {0x8102}, {0}, {0xffff}}}
	for i, d := range p.dots {
		p.trns = keyOf(p, d)
		want := p.clearAt(i)
		wantPicture(t, fmt.Sprintf("% x", p.trns), p.png(), want)
	}
}

// P14.3: a colour is clear just where all three samples are the tRNS's, each of them by itself.
func TestClearColours(t *testing.T) {
	for _, depth := range []int{8, 16} {
		values := []int{0, 1, 0x12, 1<<depth - 1}
		p := picture{pair: pair{depth, 2}, w: 64, h: 1}
		for i := range 64 {
			p.dots = append(p.dots, dot{values[i/16], values[i/4%4], values[i%4]})
		}
		for i, d := range p.dots {
			p.trns = keyOf(p, d)
			want := p.clearAt(i)
			wantPicture(t, fmt.Sprintf("% x of %d bits", p.trns, depth), p.png(), want)
			if depth == 8 {
				p.trns[0], p.trns[2], p.trns[4] = 0x91, 0x01, 0xff
				wantPicture(t, fmt.Sprintf("% x of 8 bits", p.trns), p.png(), want)
			}
		}
		p.trns = keyOf(p, dot{0x13, 0x12, 0x12})
		wantPicture(t, "a colour that no pixel has", p.png(), p.raster())
	}
}

// P14.3: a clear pixel keeps its samples, and there may be many of them, in any row and pass.
func TestClearEverywhere(t *testing.T) {
	for _, of := range []pair{{1, 0}, {2, 0}, {4, 0}, {8, 0}, {16, 0}, {8, 2}, {16, 2}} {
		for _, laced := range []bool{false, true} {
			p := anyOf(of.depth, of, 9, 9, laced)
			for i := range p.dots {
				if i%3 == 0 {
					p.dots[i] = p.dots[0]
				}
			}
			p.trns = keyOf(p, p.dots[0])
			wantPicture(t, fmt.Sprint(of, laced), p.packed(p.data(turns(4))), p.raster())
		}
	}
}

// P14.3: of places the tRNS has an alpha each, the first ones at least; those beyond are 65535.
func TestClearPlaces(t *testing.T) {
	for _, depth := range []int{1, 2, 4, 8} {
		most := 1 << depth
		for _, colours := range []int{1, 2, 3, most - 1, most} {
			if colours > most {
				continue
			}
			p := picture{pair: pair{depth, 3}, w: colours, h: 1, plte: noise(colours, 3*colours)}
			for v := range colours {
				p.dots = append(p.dots, dot{v})
			}
			for alphas := range colours + 1 {
				p.trns = noise(alphas, alphas)
				want := p.raster()
				for i := range colours {
					a := uint16(65535)
					if i < alphas {
						a = 257 * uint16(p.trns[i])
					}
					if want.Pix[4*i+3] != a {
						t.Fatalf("the test's own model has %d for place %d of %d alphas", want.Pix[4*i+3], i, alphas)
					}
				}
				wantPicture(t, fmt.Sprint(depth, " bits, ", colours, " colours, ", alphas, " alphas"), p.png(), want)
			}
		}
	}
}

// P14.3: alpha of Colours 4 and 6 is the pixel's own sample, of any value; a clear pixel keeps its others.
func TestOwnAlpha(t *testing.T) {
	for _, of := range []pair{{8, 4}, {16, 4}, {8, 6}, {16, 6}} {
		p := picture{pair: of, w: 256, h: 1}
		for i := range 256 {
			v := i * ((1<<of.depth - 1) / 255)
			d := dot{v, 1, 2, v}
			if of.colour == 4 {
				d = dot{1<<of.depth - 1 - v, v}
			}
			p.dots = append(p.dots, d)
		}
		want := p.raster()
		for i := range 256 {
			if want.Pix[4*i+3] != uint16(257*i) {
				t.Fatalf("the test's own model has %d for alpha %d", want.Pix[4*i+3], i)
			}
		}
		wantPicture(t, of, p.png(), want)
	}
}

// P14.2, P14.3: a PLTE beside Colours 2 and 6 may be there, and says nothing of their pixels; a tRNS behind it means what it means without it.
func TestPaletteBesideSamples(t *testing.T) {
	for _, of := range []pair{{8, 2}, {16, 2}, {8, 6}, {16, 6}} {
		for _, colours := range []int{1, 7, 256} {
			p := anyOf(colours, of, 5, 4, colours == 7)
			p.plte = noise(colours, 3*colours)
			wantPicture(t, fmt.Sprint(of, " beside ", colours, " colours"), p.png(), p.raster())
			if of.colour == 2 {
				p.trns = keyOf(p, p.dots[6])
				wantPicture(t, fmt.Sprint(of, " with a clear one, beside ", colours, " colours"), p.png(), p.raster())
			}
		}
	}
}
