package deflate

import (
	"slices"

	"engraver/bits"
)

// The kinds of blocks.
const (
	stored = iota
	fixed
	own
)

// headBits are the bits ahead of each block: whether it is the last one, and its kind.
const headBits = 3

// pen writes bits, and knows how many it wrote.
type pen struct {
	low     bits.Low
	written int
}

func (p *pen) out() []byte { return p.low.Out() }

func (p *pen) put(x, n int) {
	p.low.Put(x, n)
	p.written += n
}

// putMark writes a symbol's word, and the further bits behind it.
func (p *pen) putMark(c code, m mark) {
	_, size, _ := c.words.Word(m.symbol)
	c.words.Put(&p.low, m.symbol)
	p.written += size
	p.put(m.further, m.size)
}

// toByte tells how many bits are missing up to the next byte's beginning, behind so many more.
func (p *pen) toByte(more int) int { return -(p.written + more) & 7 }

// putBlock writes a block of raw, which the pieces tell, of the kind that has the fewest bits. So none ends farther than a
// stored block would, by which Most is bounded.
func (p *pen) putBlock(raw []byte, pieces []piece, last bool) {
	t := count(pieces)
	short, plain := ownCodes(&t), fixedCodes()
	var trial pen
	trial.putCodes(short)
	ownBits, fixedBits := trial.written+t.bits(short), t.bits(plain)
	storedBits := p.toByte(headBits) + 32 + 8*len(raw)
	switch min(storedBits, fixedBits, ownBits) {
	case storedBits:
		p.putHead(last, stored)
		p.putRaw(raw)
	case fixedBits:
		p.putHead(last, fixed)
		p.putPieces(pieces, plain)
	default:
		p.putHead(last, own)
		p.putCodes(short)
		p.putPieces(pieces, short)
	}
}

func (p *pen) putHead(last bool, kind int) {
	if last {
		p.put(1, 1)
	} else {
		p.put(0, 1)
	}
	p.put(kind, 2)
}

func (p *pen) putRaw(raw []byte) {
	p.put(0, p.toByte(0))
	p.put(len(raw), 16)
	p.put(^len(raw), 16)
	for _, b := range raw {
		p.put(int(b), 8)
	}
}

func (p *pen) putPieces(pieces []piece, c codes) {
	for _, x := range pieces {
		if x.length == 0 {
			p.putMark(c.literals, mark{symbol: int(x.literal)})
		} else {
			p.putMark(c.literals, lengthMark(int(x.length)))
			p.putMark(c.distances, distanceMark(int(x.back)))
		}
	}
	p.putMark(c.literals, mark{symbol: endOfBlock})
}

// putCodes tells a block's own codes by their lengths, and these in a code that is told ahead of them.
func (p *pen) putCodes(c codes) {
	marks := lengthMarks(slices.Concat(c.literals.lengths, c.distances.lengths))
	var freq [len(lengthOrder)]int
	for _, m := range marks {
		freq[m.symbol]++
	}
	ofLengths := shortestCode(freq[:], longestLengthWord, len(freq))
	told := inOrder(ofLengths.lengths)
	p.put(len(c.literals.lengths)-fewestLiterals, 5)
	p.put(len(c.distances.lengths)-fewestDistances, 5)
	p.put(len(told)-fewestLengths, 4)
	for _, length := range told {
		p.put(length, 3)
	}
	for _, m := range marks {
		p.putMark(ofLengths, m)
	}
}
