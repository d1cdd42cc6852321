package deflate

const (
	farthest    = 1 << 15 // how far back a row may be told from
	shortestRow = 3
	greatestRow = 258
	mostTries   = 64 // places that are looked at for one row, since there may be as many as bytes
)

// finder knows where bytes stood, by three of them. Places are kept as one more than they are, so that 0 is none.
// Three bytes have one key; others may have the same, so what stands at a place is always compared.
type finder struct {
	newest []int32 // of each key, the place that was added last
	older  []int32 // of each place, modulo the list's length, the one with the same key that was added ahead of it
}

// newFinder makes one for so many bytes. Its lists' length is a power of two: less than what a row may reach back only where
// there are no more bytes than that.
func newFinder(bytes int) finder {
	size := 1
	for size < bytes && size < farthest {
		size *= 2
	}
	return finder{newest: make([]int32, size), older: make([]int32, size)}
}

func (f *finder) key(b []byte, at int) int {
	x := uint32(b[at]) | uint32(b[at+1])<<8 | uint32(b[at+2])<<16
	// An odd number that mixes all 24 bits into those of which the key is made.
	return int(x*2654435761>>16) & (len(f.newest) - 1)
}

// add notes the place at in b. Places are added one after another.
func (f *finder) add(b []byte, at int) {
	if at+shortestRow > len(b) {
		return
	}
	key := f.key(b, at)
	f.older[at&(len(f.older)-1)] = f.newest[key]
	f.newest[key] = int32(at + 1)
}

// find answers the longest row at that place in b, up to b's end, that begins at one of the places looked at, and how far back
// that is: of equal ones the nearest. 0, 0: there is none. All places ahead of at were added, and no others.
func (f *finder) find(b []byte, at int) (length, back int) {
	most := min(greatestRow, len(b)-at)
	if most < shortestRow {
		return 0, 0
	}
	place := int(f.newest[f.key(b, at)]) - 1
	for tries := mostTries; tries > 0 && place >= 0 && at-place <= farthest && length < most; tries-- {
		if n := alike(b, place, at, most); n >= shortestRow && n > length {
			length, back = n, at-place
		}
		place = int(f.older[place&(len(f.older)-1)]) - 1
	}
	return length, back
}

// alike counts the bytes, at most most, that are the same from both places on.
func alike(b []byte, one, other, most int) int {
	n := 0
	for n < most && b[one+n] == b[other+n] {
		n++
	}
	return n
}
