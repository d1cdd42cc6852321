package raster

import (
	"slices"

	"engraver/api"
)

// Same tells whether both are pictures, of the same sides and samples.
func Same(a, b api.Raster) bool {
	// The samples alone do not tell: as many of them may stand in other rows.
	return May(a) && May(b) && a.W == b.W && a.H == b.H && slices.Equal(a.Pix, b.Pix)
}

// Colours counts r's unlike pixels; false, if they are more than most.
func Colours(r api.Raster, most int) (int, bool) {
	if !May(r) {
		return 0, false
	}
	colours := keys(r)
	slices.Sort(colours) // so that pixels that are alike stand side by side
	n := len(slices.Compact(colours))
	if n > most {
		return 0, false
	}
	return n, true
}

// keys answers each pixel as one number: its four samples fill the 64 bits, so that unlike pixels have unlike numbers.
func keys(r api.Raster) []uint64 {
	out := make([]uint64, r.W*r.H)
	for i, sample := range r.Pix {
		out[i/samples] = out[i/samples]<<16 | uint64(sample)
	}
	return out
}
