package inflate_test

import (
	"fmt"
	"slices"
	"testing"

	"engraver/api"
)

// TestBitsEndAnywhere: each beginning of a stream is short, and of no other error.
func TestBitsEndAnywhere(t *testing.T) {
	for i, stream := range samples(t) {
		used := all(stream, room).used
		for n := range used {
			wantErr(t, fmt.Sprint("sample ", i, ": ", n, " bytes"), stream[:n], room, api.ErrShort)
		}
	}
	wantErr(t, "nothing", nil, room, api.ErrShort)
	wantErr(t, "nothing", []byte{}, 0, api.ErrShort)
}

// wantBroken asks for ErrForm as soon as the bits that tell it are there, whatever stands behind them; while they are not, for ErrShort.
func wantBroken(t *testing.T, what string, told text) {
	t.Helper()
	for _, fill := range []text{"0", "1"} {
		full := told
		for len(full)%8 != 0 {
			full += fill
		}
		wantErr(t, what, full.bytes(), room, api.ErrForm)
		wantErr(t, what, append(full.bytes(), 0, 0, 0, 0, 0), room, api.ErrForm)
		wantErr(t, what, append(full.bytes(), 0xff, 0xff, 0xff, 0xff, 0xff), room, api.ErrForm)
	}
	wantErr(t, what+", a bit too short", told[:(len(told)-1)/8*8].bytes(), room, api.ErrShort)
}

func TestABlockOfKind3(t *testing.T) {
	wantBroken(t, "the last block", head(true, 3))
	wantBroken(t, "another one", head(false, 3))
	wantBroken(t, "behind a block", head(false, 1)+literals(1, 2)+fixed(256)+head(true, 3))
	wantBroken(t, "behind a stored block", text("").storedBlock(false, []byte{1})+head(true, 3))
}

func TestStoredLengthsThatDoNotAgree(t *testing.T) {
	for i := range 16 {
		wantBroken(t, fmt.Sprint("bit ", i), number(1, 8)+number(2, 16)+number(^2^1<<i, 16))
	}
	wantBroken(t, "twice the same", number(1, 8)+number(2, 16)+number(2, 16))
	wantBroken(t, "noughts", number(1, 8)+number(0, 16)+number(0, 16))
	wantBroken(t, "of another block", text("").storedBlock(false, []byte{1})+number(1, 8)+number(0, 16)+number(0xfffe, 16))
}

func TestACodeOfCodeLengthsThatIsRefused(t *testing.T) {
	for what, sizes := range map[string]map[int]int{
		"too many words":          {0: 1, 1: 1, 2: 1},
		"too many long words":     {0: 1, 1: 2, 2: 2, 15: 7},
		"too few words":           {0: 1, 1: 2},
		"one word of two bits":    {18: 2},
		"one word of seven bits":  {15: 7},
		"too few words, of seven": {0: 7, 15: 7},
	} {
		// The last size is told by the last symbol of the order, so all of the head's bits are needed.
		wantBroken(t, what, ownHead(true, 257, 1, sizes))
	}
}

// TestACodeOfNoCodeLengths is one that huff takes, but it has no word: known ahead of any bit of one.
func TestACodeOfNoCodeLengths(t *testing.T) {
	wantBroken(t, "all sizes 0", ownHead(true, 257, 1, nil))
}

// TestACodeOfOneCodeLength: its word is a bit that is 0, and a 1 is none.
func TestACodeOfOneCodeLength(t *testing.T) {
	wantBroken(t, "at once", ownHead(true, 257, 1, map[int]int{7: 1})+"1")
	wantBroken(t, "behind others", ownHead(true, 257, 1, map[int]int{7: 1})+"000000"+"1")
}

func TestACodeOfLiteralsThatIsRefused(t *testing.T) {
	for what, lengths := range map[string]map[int]int{
		"too many words":            {0: 1, 1: 1, 256: 1},
		"too few words":             {0: 1, 256: 2},
		"one word of two bits":      {256: 2},
		"one too many of 15":        {0: 1, 1: 1, 256: 15},
		"two words, of 2 bits each": {255: 2, 256: 2},
	} {
		wantBroken(t, what, ownBlock(true, sparse(257, lengths), []int{1}))
	}
}

func TestACodeOfDistancesThatIsRefused(t *testing.T) {
	good := sparse(257, map[int]int{0: 1, 256: 1})
	for what, lengths := range map[string][]int{
		"too many words":       {1, 1, 1},
		"too few words":        {1, 2},
		"one word of two bits": {2},
		"one of 15 bits":       {0, 0, 15},
		"too few of 30":        slices.Repeat([]int{5}, 30),
	} {
		wantBroken(t, what, ownBlock(true, good, lengths))
	}
}

func TestMoreLiteralsOrDistancesThanThereAre(t *testing.T) {
	for _, c := range [][2]int{{287, 1}, {288, 1}, {257, 31}, {257, 32}, {287, 31}, {288, 32}, {286, 31}, {287, 30}} {
		numbers := head(true, 2) + number(c[0]-257, 5) + number(c[1]-1, 5) + number(0, 4)
		wantBroken(t, fmt.Sprint(c), numbers)
		wantErr(t, fmt.Sprint(c, " and not all of the third number"), numbers.bytes()[:2], room, api.ErrShort)
	}
}

func TestACodeLengthThatRepeatsNothing(t *testing.T) {
	ahead := ownHead(true, 257, 1, map[int]int{0: 1, 16: 1})
	wantBroken(t, "the first one", ahead+"1"+"00")
	wantBroken(t, "the first one, of more", ahead+"1"+"11")
	for n := range 8 { // the literals of 9 bits move the border of a byte to each of its bits
		start := head(false, 1) + literals(slices.Repeat([]byte{200}, n)...) + fixed(256)
		wantBroken(t, "asked behind its bits", start+ahead+"1"+"11")
	}
}

// TestCodeLengthsBeyondTheirNumber: by one, by many, and from the literals on.
func TestCodeLengthsBeyondTheirNumber(t *testing.T) {
	for n := range 8 {
		start := head(false, 1) + literals(slices.Repeat([]byte{200}, n)...) + fixed(256) + ownHead(true, 257, 1, sizesOfRepeats())
		wantBroken(t, "18 by one", start+"01"+zeros(138)+zeros(107)+zeros(13))
		wantBroken(t, "18 by many", start+"01"+zeros(138)+zeros(117)+zeros(138))
		wantBroken(t, "18 behind all literals", start+"01"+zeros(138)+zeros(117)+"01"+zeros(11))
		wantBroken(t, "17 by one", start+"01"+zeros(138)+zeros(117)+"1110"+number(0, 3))
		wantBroken(t, "17 by many", start+"01"+zeros(138)+zeros(117)+"1110"+number(7, 3))
		wantBroken(t, "16 by one", start+"01"+zeros(138)+zeros(117)+"110"+number(0, 2))
		wantBroken(t, "16 by many", start+"01"+zeros(138)+zeros(117)+"01"+"110"+number(3, 2))
	}
}

// TestCodeLengthsBeyondTheirNumberByNoughts: the codes would be good ones without the nought that is too many.
func TestCodeLengthsBeyondTheirNumberByNoughts(t *testing.T) {
	two := "01" + zeros(138) + zeros(117) + "01" // the literal 0, and the end
	for n := range 8 {
		high := slices.Repeat([]byte{200}, n)
		for what, c := range map[string]struct {
			distances int
			lengths   text
		}{
			"18": {10, zeros(11)},
			"17": {2, "1110" + number(0, 3)},
			"16": {3, "00" + "110" + number(0, 2)},
		} {
			start := head(false, 1) + literals(high...) + fixed(256)
			wantBroken(t, what, start+ownHead(true, 257, c.distances, sizesOfRepeats())+two+c.lengths)
			good := start + ownHead(true, 257, c.distances+1, sizesOfRepeats()) + two + c.lengths + "1"
			wantOut(t, what, good.bytes(), high)
		}
	}
}

// TestNoWordForTheEndOfABlock is asked ahead of what the block holds.
func TestNoWordForTheEndOfABlock(t *testing.T) {
	wantBroken(t, "two literals", ownBlock(true, sparse(257, map[int]int{0: 1, 1: 1}), []int{1}))
	wantBroken(t, "a literal and a length", ownBlock(true, sparse(258, map[int]int{0: 1, 257: 1}), []int{1}))
	wantBroken(t, "one literal", ownBlock(true, sparse(257, map[int]int{7: 1}), []int{1}))
	wantBroken(t, "no word at all", ownBlock(true, sparse(257, nil), []int{1}))
	wantErr(t, "no room for what it holds", ownBlock(true, sparse(257, map[int]int{0: 1, 1: 1}), []int{1}).bytes(), 0, api.ErrForm)
}

func TestSymbolsThatAreNone(t *testing.T) {
	for n := range 8 {
		ahead := head(true, 1) + literals(slices.Repeat([]byte{200}, n+1)...)
		wantBroken(t, "286", ahead+fixed(286))
		wantBroken(t, "287", ahead+fixed(287))
		for _, length := range []text{fixed(257), fixed(285), fixed(284) + "01010"} {
			wantBroken(t, "30", ahead+length+word(30, 5))
			wantBroken(t, "31", ahead+length+word(31, 5))
		}
	}
}

// TestADistanceBeyondWhatWasPutOut is asked when all its bits are there.
func TestADistanceBeyondWhatWasPutOut(t *testing.T) {
	for n := range 10 {
		b := noise(n, n, 256)
		for _, distance := range []int{n + 1, n + 2, 100, 5000, 32768} {
			wantBroken(t, fmt.Sprint(distance, " behind ", n), head(true, 1)+literals(b...)+fixedRow(3, distance))
		}
	}
	stored := text("").storedBlock(false, noise(1, 32767, 256))
	wantErr(t, "the greatest, by one", (stored + head(true, 1) + fixedRow(3, 32768) + fixed(256)).bytes(), room, api.ErrForm)
}

func TestAWordThatIsNone(t *testing.T) {
	end := ownBlock(true, sparse(257, map[int]int{256: 1}), []int{1})
	wantBroken(t, "a literal of a code of one", end+"1")
	lengths := sparse(258, map[int]int{0: 1, 256: 2, 257: 2})
	wantBroken(t, "a distance of a code of one", ownBlock(true, lengths, []int{1})+"0"+"11"+"1")
	// There is no bit that tells it: the length is the last thing read.
	wantBroken(t, "a distance of a code of none", ownBlock(true, lengths, []int{0})+"0"+"11")
	more := sparse(285, map[int]int{0: 1, 256: 2, 284: 2})
	wantBroken(t, "a distance of a code of none, behind further bits", ownBlock(true, more, []int{0})+"0"+"11"+"01010")
}

// TestTheErrorThatIsMetFirst: each stream has two.
func TestTheErrorThatIsMetFirst(t *testing.T) {
	two := []byte{1, 2, 0, 0xfd, 0xff, 8, 9}
	far := (head(true, 1) + literals(1, 2) + fixedRow(3, 3)).bytes()
	near := (head(true, 1) + literals(1, 2) + fixedRow(3, 2)).bytes()
	none := (head(true, 1) + literals(1, 2) + fixed(286)).bytes()
	for _, c := range []struct {
		what string
		b    []byte
		most int
		want api.Errno
	}{
		{"a byte is read ahead of asking for its room", two[:5], 0, api.ErrShort},
		{"the first byte has no room, the second is not there", two[:6], 0, api.ErrSize},
		{"the second byte is not there", two[:6], 1, api.ErrShort},
		{"the second byte is there, without room", two, 1, api.ErrSize},
		{"nothing to put out needs no room", []byte{1, 0, 0, 0xff, 0xff}, 0, api.OK},
		{"literals have no room, the distance is too far", far, 1, api.ErrSize},
		{"the distance is too far, the row has no room", far, 2, api.ErrForm},
		{"the row has no room, its end is not there", near, 2, api.ErrSize},
		{"the row's last byte has no room", near, 4, api.ErrSize},
		{"the row has room, the block's end is not there", near, 5, api.ErrShort},
		{"a literal has no room, the symbol behind it is none", none, 1, api.ErrSize},
		{"a symbol is none, where no room is left", none, 2, api.ErrForm},
		{"a row has no room, but its distance is not there", (head(true, 1) + literals(1) + fixed(257)).bytes()[:2], 1, api.ErrShort},
		{"a block of kind 3 where no room is left", append(slices.Concat([]byte{0}, two[1:]), 7), 2, api.ErrForm},
		{"no room, and behind it a block of kind 3", append(slices.Concat([]byte{0}, two[1:]), 7), 1, api.ErrSize},
		{"the argument, ahead of the bits", nil, -1, api.ErrArg},
		{"the argument, ahead of the form", []byte{7}, -1, api.ErrArg},
	} {
		if got := all(c.b, c.most).err; got != c.want {
			t.Errorf("%s: %v, want %v", c.what, got, c.want)
		}
	}
}

// spoiled are streams like those of samples with a bit turned, bytes changed, or cut, and such as never were one.
func spoiled(t *testing.T) [][]byte {
	t.Helper()
	d := dice(77)
	var out [][]byte
	for _, stream := range samples(t) {
		for range 60 {
			b := slices.Clone(stream)
			for range 1 + d.below(3) {
				at := d.below(min(len(b), 1+d.below(200)))
				b[at] ^= 1 << d.below(8)
			}
			out = append(out, b[:len(b)-d.below(2)*d.below(len(b))])
		}
	}
	for i := range 1500 {
		out = append(out, append([]byte{byte(4 + d.below(2))}, noise(i, d.below(120), 256)...), noise(i, d.below(40), 256))
	}
	return out
}

// TestSpoiledStreams: whatever is in the bytes, the answer is the model's, and it comes.
func TestSpoiledStreams(t *testing.T) {
	met := map[api.Errno]int{}
	for i, b := range spoiled(t) {
		for _, most := range []int{room, 30} {
			want, _ := byModel(b, most)
			wantAnswer(t, fmt.Sprintf("stream %d, most %d: %x", i, most, b[:min(len(b), 60)]), all(b, most), want)
			met[want.err]++
		}
	}
	for _, e := range []api.Errno{api.OK, api.ErrShort, api.ErrForm, api.ErrSize} {
		if met[e] < 50 {
			t.Errorf("only %d of the streams end with %v", met[e], e)
		}
	}
}
