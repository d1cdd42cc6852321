package inflate_test

import (
	"engraver/api"
)

// model reads a stream in one go, as the chapter and RFC 1951 say it, by texts of noughts and ones: slow, and
// with nothing in common with the program.
type model struct {
	in   text
	at   int
	most int
	out  []byte
}

// byModel is what All has to answer, and how many bytes are put out ahead of the stream's end, or of where it breaks.
func byModel(b []byte, most int) (a answer, put int) {
	m := &model{in: textOf(b), most: most}
	defer func() {
		if e, ok := recover().(api.Errno); ok {
			a, put = answer{err: e}, len(m.out)
		}
	}()
	m.need(most >= 0, api.ErrArg)
	for last := false; !last; {
		last = m.bit() == '1'
		m.blockOf(m.number(2))
	}
	return answer{m.out, (m.at + 7) / 8, api.OK}, len(m.out)
}

func (m *model) need(ok bool, e api.Errno) {
	if !ok {
		panic(e)
	}
}

func (m *model) bit() byte {
	m.need(m.at < len(m.in), api.ErrShort)
	m.at++
	return m.in[m.at-1]
}

func (m *model) number(n int) int {
	x := 0
	for i := range n {
		x += int(m.bit()-'0') << i
	}
	return x
}

func (m *model) put(b byte) {
	m.need(len(m.out) < m.most, api.ErrSize)
	m.out = append(m.out, b)
}

func (m *model) blockOf(kind int) {
	m.need(kind < 3, api.ErrForm)
	switch kind {
	case 0:
		m.at = (m.at + 7) / 8 * 8
		n := m.number(16)
		m.need(m.number(16)+n == 65535, api.ErrForm)
		for range n {
			m.put(byte(m.number(8)))
		}
	case 1:
		literals := make([]int, 288)
		for i := range literals {
			literals[i] = len(fixed(i))
		}
		distances := make([]int, 32)
		for i := range distances {
			distances[i] = 5
		}
		m.words(m.codeOf(literals), m.codeOf(distances))
	case 2:
		m.words(m.ownCodes())
	}
}

func (m *model) ownCodes() (book, book) {
	literals, distances, told := m.number(5)+257, m.number(5)+1, m.number(4)+4
	m.need(literals <= 286 && distances <= 30, api.ErrForm)
	sizes := make([]int, 19)
	for _, symbol := range []int{16, 17, 18, 0, 8, 7, 9, 6, 10, 5, 11, 4, 12, 3, 13, 2, 14, 1, 15}[:told] {
		sizes[symbol] = m.number(3)
	}
	c := m.codeOf(sizes)
	var l []int
	for len(l) < literals+distances {
		times, length := 1, m.word(c)
		switch length {
		case 16:
			times = 3 + m.number(2)
			m.need(len(l) > 0, api.ErrForm)
			length = l[len(l)-1]
		case 17:
			times, length = 3+m.number(3), 0
		case 18:
			times, length = 11+m.number(7), 0
		}
		for range times {
			l = append(l, length)
		}
	}
	m.need(len(l) == literals+distances, api.ErrForm)
	m.need(l[256] > 0, api.ErrForm)
	return m.codeOf(l[:literals]), m.codeOf(l[literals:])
}

// book has a code's words, and -1 for each beginning of a word.
type book map[text]int

func (m *model) codeOf(lengths []int) book {
	out, next, words, room := book{}, 0, 0, 1<<15
	for size := 1; size <= 15; size++ {
		next *= 2
		for symbol, n := range lengths {
			if n == size {
				m.need(next < 1<<size, api.ErrForm)
				w := word(next, size)
				for i := range size {
					out[w[:i]] = -1
				}
				out[w] = symbol
				next, words, room = next+1, words+1, room-1<<(15-size)
			}
		}
	}
	_, single := out["0"]
	m.need(room == 0 || words == 0 || words == 1 && single && out["0"] >= 0, api.ErrForm)
	return out
}

func (m *model) word(c book) int {
	w := text("")
	for {
		symbol, ok := c[w]
		m.need(ok, api.ErrForm)
		if symbol >= 0 {
			return symbol
		}
		w += text(m.bit())
	}
}

func (m *model) words(literals, distances book) {
	for {
		symbol := m.word(literals)
		if symbol == 256 {
			return
		}
		if symbol < 256 {
			m.put(byte(symbol))
			continue
		}
		m.need(symbol < 286, api.ErrForm)
		length := m.length(symbol)
		place := m.word(distances)
		m.need(place < 30, api.ErrForm)
		distance := m.distance(place)
		m.need(distance <= len(m.out), api.ErrForm)
		for range length {
			m.put(m.out[len(m.out)-distance])
		}
	}
}

// length looks a length up by what the list of RFC 1951 has as its symbol and bits.
func (m *model) length(symbol int) int {
	for length := 3; ; length++ {
		if s, further := lengthText(length); s == symbol {
			return length + m.number(len(further))
		}
	}
}

func (m *model) distance(place int) int {
	for distance := 1; ; distance++ {
		if s, further := distanceText(distance); s == place {
			return distance + m.number(len(further))
		}
	}
}
