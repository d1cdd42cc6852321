package deflate

const (
	endOfBlock      = 256 // the symbol behind those of bytes
	firstLength     = endOfBlock + 1
	greatestLength  = 285 // the symbol of the greatest length, which stands outside the lengths' ladder
	literalSymbols  = 286
	distanceSymbols = 30
)

// piece tells bytes: a row that was there that far back, or, if length is 0, a byte as it is.
type piece struct {
	literal      byte
	length, back uint16
}

// mark is how a number stands in a stream: a symbol, of which the word is written, and further bits behind it.
type mark struct {
	symbol, further, size int
}

// onLadder answers the mark of x on a ladder that both lengths and distances climb: its first two lots of rungs have one number
// each, and those of each further lot twice as many as those of the lot below.
func onLadder(x, lot int) mark {
	size := 0
	for x>>size >= 2*lot {
		size++
	}
	return mark{symbol: size*lot + x>>size, further: x & (1<<size - 1), size: size}
}

func lengthMark(length int) mark {
	if length == greatestRow {
		return mark{symbol: greatestLength}
	}
	out := onLadder(length-shortestRow, 4)
	out.symbol += firstLength
	return out
}

func distanceMark(back int) mark { return onLadder(back-1, 2) }

// tally counts how often a block's symbols are written, and the further bits behind them.
type tally struct {
	literals  [literalSymbols]int
	distances [distanceSymbols]int
	further   int
}

func count(pieces []piece) tally {
	var t tally
	for _, p := range pieces {
		t.add(p)
	}
	t.literals[endOfBlock]++
	return t
}

func (t *tally) add(p piece) {
	if p.length == 0 {
		t.literals[p.literal]++
		return
	}
	length, distance := lengthMark(int(p.length)), distanceMark(int(p.back))
	t.literals[length.symbol]++
	t.distances[distance.symbol]++
	t.further += length.size + distance.size
}

// bits tells how many bits the pieces have in these codes, the block's end too.
func (t *tally) bits(c codes) int {
	return c.literals.bits(t.literals[:]) + c.distances.bits(t.distances[:]) + t.further
}
