package inflate

import (
	"slices"

	"engraver/api"
	"engraver/huff"
)

const (
	endOfBlock    = 256 // the symbol behind the literals
	firstLength   = endOfBlock + 1
	longestRow    = 285 // the symbol of the greatest length, which stands outside the lengths' ladder
	mostLiterals  = 286
	mostDistances = 30
)

// lengthOrder is the order in which a block's head tells the lengths of the code of code lengths.
var lengthOrder = [...]int{16, 17, 18, 0, 8, 7, 9, 6, 10, 5, 11, 4, 12, 3, 13, 2, 14, 1, 15}

// beginBlock reads a block's head.
func (m *Machine) beginBlock() {
	m.last = m.in.Take(1) == 1
	switch m.in.Take(2) {
	case 0:
		m.left = m.storedLength()
		m.place = stored
	case 1:
		m.block = m.fixedCodes()
		m.place = coded
	case 2:
		m.block = m.ownCodes()
		m.place = coded
	default:
		panic(api.ErrForm)
	}
}

func (m *Machine) storedLength() int {
	m.in.Align()
	length := m.in.Take(16)
	turned := m.in.Take(16)
	if length^turned != 0xffff {
		panic(api.ErrForm)
	}
	return length
}

func (m *Machine) storedByte() bool {
	if m.left == 0 {
		m.place = ahead
		return false
	}
	m.put(byte(m.in.Take(8)))
	m.left--
	return true
}

func (m *Machine) fixedCodes() codes {
	if m.fixed.literals == nil {
		literals := slices.Concat(slices.Repeat([]int{8}, 144), slices.Repeat([]int{9}, 112), slices.Repeat([]int{7}, 24), slices.Repeat([]int{8}, 8))
		m.fixed = codes{mustBeCode(literals), mustBeCode(slices.Repeat([]int{5}, 32))}
	}
	return m.fixed
}

// ownCodes reads the codes that a block brings with it.
func (m *Machine) ownCodes() codes {
	literals := 257 + m.in.Take(5)
	distances := 1 + m.in.Take(5)
	told := 4 + m.in.Take(4)
	if literals > mostLiterals || distances > mostDistances {
		panic(api.ErrForm)
	}
	lengths := m.codeLengths(m.codeOfLengths(told), literals+distances)
	own := codes{mustBeCode(lengths[:literals]), mustBeCode(lengths[literals:])}
	if lengths[endOfBlock] == 0 {
		panic(api.ErrForm)
	}
	return own
}

// codeOfLengths reads the code in which code lengths are written, of which that many lengths are told.
func (m *Machine) codeOfLengths(told int) *huff.Code {
	var lengths [len(lengthOrder)]int
	for i := range told {
		lengths[lengthOrder[i]] = m.in.Take(3)
	}
	return mustBeCode(lengths[:])
}

// codeLengths reads n code lengths. Those of literals and of distances are one list: a repetition may go from these to those.
func (m *Machine) codeLengths(c *huff.Code, n int) []int {
	var lengths []int
	for len(lengths) < n {
		length, times := m.codeLength(c, lengths)
		if times > n-len(lengths) {
			panic(api.ErrForm)
		}
		for range times {
			lengths = append(lengths, length)
		}
	}
	return lengths
}

// codeLength reads what comes behind these lengths: a length, and how many times.
func (m *Machine) codeLength(c *huff.Code, lengths []int) (length, times int) {
	switch symbol := c.Take(m.in); symbol {
	case 16:
		times = 3 + m.in.Take(2)
		if len(lengths) == 0 {
			panic(api.ErrForm)
		}
		return lengths[len(lengths)-1], times
	case 17:
		return 0, 3 + m.in.Take(3)
	case 18:
		return 0, 11 + m.in.Take(7)
	default:
		return symbol, 1
	}
}

func mustBeCode(lengths []int) *huff.Code {
	c, e := huff.New(lengths)
	if e != api.OK {
		panic(api.ErrForm)
	}
	return c
}

// takeSymbol reads a word: a literal, which is put out; the block's end; or the length of a row, of which the distance is read too.
func (m *Machine) takeSymbol() bool {
	symbol := m.block.literals.Take(m.in)
	if symbol < endOfBlock {
		m.put(byte(symbol))
		return true
	}
	if symbol == endOfBlock {
		m.place = ahead
		return false
	}
	m.left = m.rowLength(symbol)
	m.back = m.rowDistance()
	m.place = inRow
	return false
}

func (m *Machine) rowLength(symbol int) int {
	if symbol > longestRow {
		panic(api.ErrForm)
	}
	if symbol == longestRow {
		return 258
	}
	return 3 + m.rung(symbol-firstLength, 4)
}

func (m *Machine) rowDistance() int {
	symbol := m.block.distances.Take(m.in)
	if symbol >= mostDistances {
		panic(api.ErrForm)
	}
	back := 1 + m.rung(symbol, 2)
	if back > len(m.out) {
		panic(api.ErrForm)
	}
	return back
}

// rung reads which number it is on rung i of a ladder that both lengths and distances climb: its first two lots of rungs have
// one number each, and those of each further lot twice as many as those of the lot below.
func (m *Machine) rung(i, lot int) int {
	if i < 2*lot {
		return i
	}
	further := i/lot - 1
	return (lot+i%lot)<<further + m.in.Take(further)
}

// rowByte puts out a byte of a row. A row may be longer than its distance: then it goes on into what it put out itself.
func (m *Machine) rowByte() bool {
	m.put(m.out[len(m.out)-m.back])
	m.left--
	if m.left == 0 {
		m.place = coded
	}
	return true
}
