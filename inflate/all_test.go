package inflate_test

import (
	"bytes"
	"fmt"
	"math"
	"slices"
	"testing"

	"engraver/api"
)

func TestChapterExample(t *testing.T) {
	wantOut(t, "03 00", []byte{3, 0}, nil)
	wantAnswer(t, "03 00", all([]byte{3, 0}, 0), answer{nil, 2, api.OK})
}

func TestStoredBlocks(t *testing.T) {
	greatest := noise(3, 65535, 256)
	wantOut(t, "none", []byte{1, 0, 0, 0xff, 0xff}, nil)
	wantOut(t, "two", []byte{1, 2, 0, 0xfd, 0xff, 8, 9}, []byte{8, 9})
	wantOut(t, "what fills the head's byte is not looked at", []byte{0xf9, 2, 0, 0xfd, 0xff, 8, 9}, []byte{8, 9})
	wantOut(t, "a length of two bytes", slices.Concat([]byte{1, 0, 1, 0xff, 0xfe}, greatest[:256]), greatest[:256])
	wantOut(t, "the greatest length", slices.Concat([]byte{1, 0xff, 0xff, 0, 0}, greatest), greatest)
	wantOut(t, "twice the greatest length", slices.Concat([]byte{0, 0xff, 0xff, 0, 0}, greatest, []byte{1, 0xff, 0xff, 0, 0}, greatest), slices.Concat(greatest, greatest))
	wantOut(t, "many in a row", text("").storedBlock(false, nil).storedBlock(false, []byte{1, 2}).storedBlock(false, nil).storedBlock(false, nil).storedBlock(false, []byte{3}).storedBlock(true, nil).bytes(), []byte{1, 2, 3})
}

// TestAStoredBlockBeginsAByte: wherever in a byte the block ahead of it ends, also where its own head goes over to the next byte.
func TestAStoredBlockBeginsAByte(t *testing.T) {
	for n := range 9 {
		high := bytes.Repeat([]byte{200}, n) // of 9 bits each
		stream := (head(false, 1) + literals(high...) + fixed(256)).storedBlock(true, []byte{1, 2})
		wantOut(t, n, stream.bytes(), append(high, 1, 2))
		behind := (text("").storedBlock(false, []byte{1, 2}) + head(true, 1) + literals(high...) + fixed(256)).bytes()
		wantOut(t, n, behind, append([]byte{1, 2}, high...))
	}
}

func TestLiteralsOfTheFixedCode(t *testing.T) {
	var every []byte
	for i := range 256 {
		every = append(every, byte(i))
		wantOut(t, i, (head(true, 1) + literals(byte(i)) + fixed(256)).bytes(), []byte{byte(i)})
	}
	wantOut(t, "all", (head(true, 1) + literals(every...) + fixed(256)).bytes(), every)
}

func TestManyBlocks(t *testing.T) {
	stream, want := text(""), []byte(nil)
	for i := range 40 {
		stream += head(false, 1) + literals(byte(i)) + fixed(256)
		stream = stream.storedBlock(false, []byte{byte(i), 100})
		stream += ownBlock(false, sparse(257, map[int]int{i: 1, 256: 1}), []int{0}) + "00" + "1"
		want = append(want, byte(i), byte(i), 100, byte(i), byte(i))
	}
	stream += head(true, 1) + fixed(256)
	wantOut(t, "40 of each kind", stream.bytes(), want)
}

// again is what a row of that length and distance is, behind b.
func again(b []byte, length, distance int) []byte {
	out := slices.Clone(b)
	for range length {
		out = append(out, out[len(out)-distance])
	}
	return out
}

func TestRowsOfEveryLength(t *testing.T) {
	b := []byte{1, 2, 3, 4, 5}
	for length := 3; length <= 258; length++ {
		for distance := 1; distance <= 5; distance++ {
			stream := head(true, 1) + literals(b...) + fixedRow(length, distance) + fixed(256)
			wantOut(t, fmt.Sprint(length, " from ", distance), stream.bytes(), again(b, length, distance))
		}
	}
}

// TestTheGreatestLengthTwice: the symbol 284 with all its bits says 258 too, and nothing in the document refuses it.
func TestTheGreatestLengthTwice(t *testing.T) {
	stream := head(true, 1) + literals(7) + fixed(284) + "11111" + word(0, 5) + fixed(256)
	wantOut(t, "284 and 31", stream.bytes(), bytes.Repeat([]byte{7}, 259))
}

func TestRowsOfDistances(t *testing.T) {
	b := noise(4, 32768, 256)
	stored := text("").storedBlock(false, b)
	distances := []int{32768, 32767, 20000}
	for place := range 30 {
		for distance := 1; distance <= 32768; distance++ {
			if p, _ := distanceText(distance); p == place {
				distances = append(distances, distance, max(distance-1, 1))
				break
			}
		}
	}
	for _, distance := range distances {
		wantOut(t, distance, (stored + head(true, 1) + fixedRow(5, distance) + fixed(256)).bytes(), again(b, 5, distance))
	}
}

func TestADistanceToTheVeryBeginning(t *testing.T) {
	for n := 1; n <= 40; n++ {
		b := noise(n, n, 100)
		wantOut(t, n, (head(true, 1) + literals(b...) + fixedRow(100, n) + fixed(256)).bytes(), again(b, 100, n))
		wantErr(t, n, (head(true, 1) + literals(b...) + fixedRow(100, n+1) + fixed(256)).bytes(), room, api.ErrForm)
	}
}

// TestRowsReachAcrossBlocks: what was put out is what all blocks did.
func TestRowsReachAcrossBlocks(t *testing.T) {
	stream := text("").storedBlock(false, []byte{1, 2}) + head(false, 1) + literals(3) + fixed(256)
	stream += head(true, 1) + fixedRow(4, 3) + fixed(256)
	wantOut(t, "three blocks", stream.bytes(), []byte{1, 2, 3, 1, 2, 3, 1})
}

func TestOwnCodes(t *testing.T) {
	// a 0, b 10, the end 110, length 4 (258) 111; distance 1: 0, distance 2: 1.
	two := ownBlock(true, sparse(259, map[int]int{'a': 1, 'b': 2, 256: 3, 258: 3}), []int{1, 1})
	wantOut(t, "a row", (two + "0" + "10" + "111" + "1" + "110").bytes(), []byte("ababab"))
	wantOut(t, "no row", (two + "0" + "0" + "110").bytes(), []byte("aa"))
	wantOut(t, "nothing", (two + "110").bytes(), nil)
	// Both codes of one word, of one bit that is 0.
	wantOut(t, "the end alone", (ownBlock(true, sparse(257, map[int]int{256: 1}), []int{0}) + "0").bytes(), nil)
	one := ownBlock(true, sparse(258, map[int]int{'a': 1, 256: 2, 257: 2}), []int{0, 1})
	wantOut(t, "one distance", (one + "0" + "0" + "11" + "0" + "10").bytes(), []byte("aaaaa"))
	// Literals alone, and no word for a distance.
	none := ownBlock(true, sparse(257, map[int]int{'a': 1, 256: 1}), make([]int, 30))
	wantOut(t, "no distance", (none + "0" + "0" + "1").bytes(), []byte("aa"))
}

// TestOwnCodesOfAllSymbols: 286 literals and 30 distances are just not too many.
func TestOwnCodesOfAllSymbols(t *testing.T) {
	lengths := slices.Concat(slices.Repeat([]int{8}, 226), slices.Repeat([]int{9}, 60))
	codeOfAll := func(symbol int) text {
		if symbol < 226 {
			return word(symbol, 8)
		}
		return word(452+symbol-226, 9)
	}
	distances := slices.Concat([]int{4, 4}, slices.Repeat([]int{5}, 28))
	block := ownBlock(true, lengths, distances)
	want := noise(5, 300, 256)
	for _, c := range want {
		block += codeOfAll(int(c))
	}
	block += codeOfAll(285) + word(0, 4)
	want = again(want, 258, 1)
	place, further := distanceText(200)
	block += codeOfAll(284) + number(30, 5) + word(4+place-2, 5) + further
	want = again(want, 257, 200)
	wantOut(t, "all symbols", (block + codeOfAll(256)).bytes(), want)
}

// TestWordsOf15Bits: as long as words can be.
func TestWordsOf15Bits(t *testing.T) {
	lengths := map[int]int{256: 15}
	for i := range 15 {
		lengths[i] = i + 1
	}
	block := ownBlock(true, sparse(257, lengths), []int{0})
	for i := range 15 {
		block += word(1<<(i+1)-2, i+1)
	}
	wantOut(t, "1 to 15 bits", (block + word(1<<15-1, 15)).bytes(), []byte{0, 1, 2, 3, 4, 5, 6, 7, 8, 9, 10, 11, 12, 13, 14})
}

// sizesOfRepeats make a code of code lengths: 0: 00, 1: 01, 2: 10, 16: 110, 17: 1110, 18: 1111.
func sizesOfRepeats() map[int]int { return map[int]int{0: 2, 1: 2, 2: 2, 16: 3, 17: 4, 18: 4} }

func zeros(n int) text { return "1111" + number(n-11, 7) }

func TestRepeatedCodeLengths(t *testing.T) {
	// Of 257 literals and 2 distances: literals 0 and 1 and the end.
	for _, c := range []struct {
		what    string
		lengths text
	}{
		{"noughts by 18", "01" + "10" + zeros(138) + zeros(116) + "10" + "00" + "00"},
		{"noughts by 17", "01" + "10" + zeros(138) + zeros(106) + "1110" + number(7, 3) + "10" + "00" + "00"},
		{"noughts by 17, the fewest", "01" + "10" + zeros(138) + zeros(113) + "1110" + number(0, 3) + "10" + "00" + "00"},
		{"noughts by 16, of 18's", "01" + "10" + zeros(138) + zeros(110) + "110" + number(3, 2) + "10" + "00" + "00"},
		{"noughts by 16, of a 0", "01" + "10" + zeros(138) + zeros(112) + "00" + "110" + number(0, 2) + "10" + "00" + "00"},
	} {
		stream := ownHead(true, 257, 2, sizesOfRepeats()) + c.lengths + "0" + "0" + "10" + "11"
		wantOut(t, c.what, stream.bytes(), []byte{0, 0, 1})
	}
}

// TestRepetitionsGoFromLiteralsToDistances: their lengths are one list.
func TestRepetitionsGoFromLiteralsToDistances(t *testing.T) {
	// The literal 0 has 1 bit; the end, the length 3 and all four distances have 2, by one repetition.
	head := ownHead(true, 258, 4, sizesOfRepeats())
	lengths := "01" + zeros(138) + zeros(117) + "10" + "110" + number(2, 2)
	stream := head + lengths + "0" + "11" + "00" + "10"
	wantOut(t, "twos", stream.bytes(), []byte{0, 0, 0, 0})
	noughts := ownHead(true, 257, 30, sizesOfRepeats()) + zeros(138) + zeros(118) + "01" + zeros(30)
	wantOut(t, "distances by 18", (noughts + "0").bytes(), nil)
	// 29 literals and 30 distances without a word, by one repetition.
	over := ownHead(true, 286, 30, sizesOfRepeats()) + "01" + zeros(138) + zeros(117) + "01" + zeros(59)
	wantOut(t, "over the border", (over + "0" + "0" + "1").bytes(), []byte{0, 0})
}

// TestFewCodeLengthsTold: those that the head does not tell are 0.
func TestFewCodeLengthsTold(t *testing.T) {
	// Only 16, 17, 18, 0 are told at the fewest: 18 and 0 have a word, so that there is none for the end: refused there.
	fewest := head(true, 2) + number(0, 5) + number(0, 5) + number(0, 4) + number(0, 3) + number(0, 3) + number(1, 3) + number(1, 3)
	wantErr(t, "4 told", (fewest + "1" + number(127, 7) + "1" + number(109, 7)).bytes(), room, api.ErrForm)
	// Five: 8 has a word too. 255 literals of 8 bits and the end are a whole code.
	five := head(true, 2) + number(0, 5) + number(0, 5) + number(1, 4) + number(2, 3) + number(0, 3) + number(0, 3) + number(2, 3) + number(1, 3)
	lengths := text("10") + "0" // a 0, then 256 times an 8
	for range 42 {
		lengths += "11" + number(3, 2)
	}
	lengths += "11" + number(0, 2) + "10"
	stream := five + lengths + word(0, 8) + word(254, 8) + word(255, 8)
	wantOut(t, "5 told", stream.bytes(), []byte{1, 255})
}

func TestStreamsOfAnotherProgram(t *testing.T) {
	for i, want := range [][]byte{nil, {1}, []byte("abracadabra"), noise(6, 3000, 256), noise(7, 100000, 3), noise(8, 70000, 200), make([]byte, 200000), bytes.Repeat(noise(9, 1000, 256), 90)} {
		for k, stream := range squeezed(t, want) {
			wantOut(t, fmt.Sprint("stream ", i, " level ", k), stream, want)
		}
	}
}

// TestTheLastByteBegunCounts: by streams that end at each bit of a byte; a further byte is left.
func TestTheLastByteBegunCounts(t *testing.T) {
	for n := range 16 {
		high := bytes.Repeat([]byte{200}, n)
		stream := head(true, 1) + literals(high...) + fixed(256)
		used := (10 + 9*n + 7) / 8
		for _, behind := range [][]byte{nil, {0}, {0xff, 0xff, 0xff}, noise(n, 100, 256)} {
			wantAnswer(t, n, all(append(stream.bytes(), behind...), n), answer{high, used, api.OK})
		}
		for len(stream)%8 != 0 {
			stream += "1"
		}
		wantAnswer(t, n, all(stream.bytes(), n), answer{high, used, api.OK})
	}
}

func TestJustTheRoomAndAByteLess(t *testing.T) {
	for i, stream := range samples(t) {
		want, put := byModel(stream, room)
		if want.err != api.OK {
			t.Fatalf("sample %d is broken: %v", i, want.err)
		}
		for _, most := range []int{put, put + 1, math.MaxInt} {
			wantAnswer(t, fmt.Sprint("sample ", i, " most ", most), all(stream, most), want)
		}
		for _, most := range []int{0, put / 2, put - 1} {
			if most >= 0 && most < put {
				wantErr(t, fmt.Sprint("sample ", i, " most ", most), stream, most, api.ErrSize)
			}
		}
		for _, most := range []int{-1, -2, math.MinInt} {
			wantErr(t, fmt.Sprint("sample ", i, " most ", most), stream, most, api.ErrArg)
		}
	}
}
