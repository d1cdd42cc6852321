package pngread

import (
	"engraver/chunk"
	"engraver/depth"
)

// opaque is the alpha of what nothing makes clear.
const opaque = 65535

// mostColours is how many colours a palette may have, whatever the Depth.
const mostColours = 256

// samples are a pixel's as they stand in the file, noughts behind the last one.
type samples [4]int

// ink is how pixels are told: the palette where they are places in it, or the samples of those that are clear.
type ink struct {
	head    Head
	colours [][4]uint16
	keyed   bool
	key     samples
}

// mix makes the ink of a head, a PLTE and a tRNS (nil: there is none); false, if they may not stand beside each other so.
func mix(h Head, plte, trns *chunk.Chunk) (ink, bool) {
	if !paletteMay(h, plte) || !clearMay(h, plte, trns) {
		return ink{}, false
	}
	k := ink{head: h}
	switch {
	case h.Colour == placed:
		k.colours = entries(plte, trns)
	case trns != nil:
		k.keyed, k.key = true, keyOf(h, trns.Data)
	}
	return k, true
}

// paletteMay tells whether a picture with such a head may have this PLTE, or none.
func paletteMay(h Head, plte *chunk.Chunk) bool {
	if plte == nil {
		return h.Colour != placed
	}
	n := len(plte.Data) / 3
	switch {
	case h.Colour == grey || h.Colour == greyAlpha:
		return false
	case len(plte.Data)%3 != 0 || n == 0 || n > mostColours:
		return false
	}
	return h.Colour != placed || n <= 1<<h.Depth
}

// clearMay tells whether a picture with such a head and PLTE may have this tRNS, or none.
func clearMay(h Head, plte, trns *chunk.Chunk) bool {
	if trns == nil {
		return true
	}
	switch h.Colour {
	case grey, rgb:
		return len(trns.Data) == 2*Parts(h.Colour)
	case placed:
		return len(trns.Data) <= len(plte.Data)/3
	}
	return false
}

// entries answers a palette's colours, those beyond the last alpha opaque.
func entries(plte, trns *chunk.Chunk) [][4]uint16 {
	out := make([][4]uint16, len(plte.Data)/3)
	for i := range out {
		b := plte.Data[3*i:]
		out[i] = [4]uint16{up(int(b[0]), 8), up(int(b[1]), 8), up(int(b[2]), 8), opaque}
		if trns != nil && i < len(trns.Data) {
			out[i][3] = up(int(trns.Data[i]), 8)
		}
	}
	return out
}

// keyOf answers the samples of the pixels that are clear: of each two bytes the lowest bits, as many as a sample has.
func keyOf(h Head, b []byte) samples {
	var key samples
	for i := range Parts(h.Colour) {
		key[i] = number(b[2*i:2*i+2]) & (1<<h.Depth - 1)
	}
	return key
}

// bits answers how many bits a pixel has.
func (k ink) bits() int { return Parts(k.head.Colour) * k.head.Depth }

// pixel answers the pixel of which these are the samples; false, if it is a place that is no colour.
func (k ink) pixel(told samples) ([4]uint16, bool) {
	if k.head.Colour == placed {
		if told[0] >= len(k.colours) {
			return [4]uint16{}, false
		}
		return k.colours[told[0]], true
	}
	var s [4]uint16
	for i, v := range told {
		s[i] = up(v, k.head.Depth)
	}
	switch k.head.Colour {
	case grey:
		return [4]uint16{s[0], s[0], s[0], k.alpha(told)}, true
	case greyAlpha:
		return [4]uint16{s[0], s[0], s[0], s[1]}, true
	case rgb:
		return [4]uint16{s[0], s[1], s[2], k.alpha(told)}, true
	}
	return s, true
}

// alpha answers that of a pixel which has no sample of it.
func (k ink) alpha(told samples) uint16 {
	if k.keyed && told == k.key {
		return 0
	}
	return opaque
}

// up scales a sample of so many bits, which it has.
func up(v, bits int) uint16 {
	s, _ := depth.Up(v, bits)
	return s
}
