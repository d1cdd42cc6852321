package adam

import "engraver/api"

// widest is how many bits a pixel may have: four samples of 16.
const widest = 64

// Row answers how many bytes w pixels of so many bits are, the last one full or not; 0, if there are no such ones.
func Row(w, bits int) int {
	if !side(w) || !depth(bits) {
		return 0
	}
	return (w*bits + 7) / 8
}

// Bytes answers how many bytes all rows of these passes are, with the filter's byte of each; 0, if one of them can't be.
func Bytes(l []Pass, bits int) int {
	if len(l) > most || !depth(bits) {
		return 0
	}
	sum := 0
	for _, p := range l {
		if !side(p.W) || !side(p.H) {
			return 0
		}
		if p.W > 0 { // rows without pixels have no filter's byte either
			sum += p.H * (1 + Row(p.W, bits))
		}
	}
	return sum
}

// side tells whether a pass may have so many pixels across or down, none among them.
func side(n int) bool { return n >= 0 && n <= api.MaxSide }

// depth tells whether a pixel may have so many bits.
func depth(bits int) bool { return bits >= 0 && bits <= widest }
