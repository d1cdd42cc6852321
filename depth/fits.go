package depth

import (
	"math"

	"engraver/api"
	"engraver/raster"
)

const (
	samples     = 4                 // of one pixel: red, green, blue, alpha
	opaque      = math.MaxUint16    // an alpha
	mostColours = math.MaxUint8 + 1 // in a GIF, whose pixels are told by a byte
)

// Fits tells whether the format can hold r as it is.
func Fits(r api.Raster, format int) bool {
	if !raster.May(r) {
		return false
	}
	switch format {
	case api.PNG:
		return true
	case api.GIF:
		return allEight(r) && opaqueOrNothing(r) && fewColours(r)
	case api.BMP:
		return allEight(r)
	}
	return false
}

// allEight tells whether each sample is a byte's.
func allEight(r api.Raster) bool {
	for _, s := range r.Pix {
		if _, ok := Eight(s); !ok {
			return false
		}
	}
	return true
}

// opaqueOrNothing tells whether each pixel is opaque or all noughts: GIF has a clear colour, and no samples for it.
func opaqueOrNothing(r api.Raster) bool {
	for at := 0; at < len(r.Pix); at += samples {
		p := [samples]uint16(r.Pix[at : at+samples])
		if p[3] != opaque && p != [samples]uint16{} {
			return false
		}
	}
	return true
}

func fewColours(r api.Raster) bool {
	_, ok := raster.Colours(r, mostColours)
	return ok
}
