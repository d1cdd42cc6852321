package chunk

import "engraver/api"

// The kinds that have a place of their own.
const (
	headKind    = "IHDR"
	coloursKind = "PLTE"
	clearKind   = "tRNS"
	pictureKind = "IDAT"
	endKind     = "IEND"
)

const headDataBytes = 13

// Critical tells whether one who doesn't know this kind can't read the picture.
func Critical(kind string) bool { return mayBeKind(kind) && isCapital(kind[0]) }

// Order tells whether l is in the order of a PNG file: ErrForm, if not.
func Order(l []Chunk) api.Errno {
	if areKnown(l) && areFramed(l) && isOnePicture(l) && areColoursAhead(l) {
		return api.OK
	}
	return api.ErrForm
}

// areKnown tells whether the kinds of l may be, and none is critical that isn't known here.
func areKnown(l []Chunk) bool {
	for _, c := range l {
		switch c.Kind {
		case headKind, coloursKind, pictureKind, endKind:
		default:
			if !mayBeKind(c.Kind) || Critical(c.Kind) {
				return false
			}
		}
	}
	return true
}

// areFramed tells whether the head is first, the end last, and neither anywhere else.
func areFramed(l []Chunk) bool {
	last := len(l) - 1
	return placesOf(l, headKind) == places{count: 1, first: 0, last: 0} && len(l[0].Data) == headDataBytes &&
		placesOf(l, endKind) == places{count: 1, first: last, last: last} && len(l[last].Data) == 0
}

// isOnePicture tells whether there are picture data, and all of them without another chunk between.
func isOnePicture(l []Chunk) bool {
	p := placesOf(l, pictureKind)
	return p.count > 0 && p.count == p.last-p.first+1
}

// areColoursAhead tells whether there are colours once at most, and what is clear of them behind them, both ahead of the picture.
func areColoursAhead(l []Chunk) bool {
	colours, clears, picture := placesOf(l, coloursKind), placesOf(l, clearKind), placesOf(l, pictureKind)
	return colours.count <= 1 && colours.first < picture.first &&
		clears.count <= 1 && clears.first < picture.first &&
		(clears.count == 0 || colours.first < clears.first)
}

// places are where a kind stands in a list; -1, if it doesn't.
type places struct{ count, first, last int }

func placesOf(l []Chunk, kind string) places {
	p := places{first: -1, last: -1}
	for i, c := range l {
		if c.Kind != kind {
			continue
		}
		if p.count == 0 {
			p.first = i
		}
		p.count++
		p.last = i
	}
	return p
}

func kindsMayBe(l []Chunk) bool {
	for _, c := range l {
		if !mayBeKind(c.Kind) {
			return false
		}
	}
	return true
}

// mayBeKind tells whether it is four letters, as ASCII has them.
func mayBeKind(kind string) bool {
	if len(kind) != wordBytes {
		return false
	}
	for i := range len(kind) {
		if c := kind[i]; !isCapital(c) && (c < 'a' || 'z' < c) {
			return false
		}
	}
	return true
}

func isCapital(c byte) bool { return 'A' <= c && c <= 'Z' }
