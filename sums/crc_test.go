package sums_test

import (
	"bytes"
	"fmt"
	"hash/crc32"
	"testing"

	"engraver/sums"
)

// slowCRC goes on from s bit by bit, as the chapter says it: begun with all ones, turned over at the end.
func slowCRC(s uint32, b []byte) uint32 {
	r := s ^ 0xffffffff
	for _, c := range b {
		for i := 0; i < 8; i++ {
			turn := (r ^ uint32(c>>i)) & 1
			r = r>>1 ^ turn*0xEDB88320
		}
	}
	return r ^ 0xffffffff
}

func TestChunkExamples(t *testing.T) {
	x := sums.New()
	want(t, "Chunk of IEND", x.Chunk("IEND", nil), 0xae426082)
	want(t, "Chunk of IEND, empty", x.Chunk("IEND", []byte{}), 0xae426082)
	want(t, "Chunk of 1234, 56789", x.Chunk("1234", []byte("56789")), 0xcbf43926)
	want(t, "More of 123456789", x.More(0, []byte("123456789")), 0xcbf43926)
	want(t, "More of a", x.More(0, []byte("a")), 0xe8b7be43)
	want(t, "Chunk of a header", x.Chunk("IHDR", []byte{0, 0, 0, 1, 0, 0, 0, 1, 8, 6, 0, 0, 0}), 0x1f15c489)
}

func TestChunkOfNothing(t *testing.T) {
	x := sums.New()
	want(t, "Chunk of nothing", x.Chunk("", nil), 0)
	want(t, "Chunk of nothing", x.Chunk("", []byte{}), 0)
	want(t, "More of nothing", x.More(0, nil), 0)
	for _, s := range starts() {
		want(t, "More of no bytes", x.More(s, nil), s)
		want(t, "More of no bytes", x.More(s, []byte{}), s)
	}
}

func TestChunkIsKindAndData(t *testing.T) {
	x := sums.New()
	for _, kind := range []string{"", "a", "IDAT", "\x00", "\x00\x00\x00\x00", "\x80\xff\xc3\xa9", "é", "\xff", string(noise(300))} {
		for _, n := range []int{0, 1, 2, 255, 256, 257, 1000} {
			data := noise(n)
			both := append([]byte(kind), data...)
			what := fmt.Sprintf("Chunk of %.8q and %d bytes", kind, n)
			want(t, what, x.Chunk(kind, data), crc32.ChecksumIEEE(both))
			want(t, what, x.Chunk(kind, data), x.More(0, both))
		}
	}
}

func TestMoreOfEachByte(t *testing.T) {
	x := sums.New()
	for c := 0; c < 256; c++ {
		for _, s := range starts() {
			b := []byte{byte(c)}
			want(t, fmt.Sprintf("More(%#x, %x)", s, b), x.More(s, b), slowCRC(s, b))
		}
	}
}

func TestMoreGoesOnFromAnySum(t *testing.T) {
	x := sums.New()
	b := noise(1 << 16)
	for _, s := range starts() {
		for _, n := range []int{1, 2, 3, 4, 5, 100, 4096} {
			what := fmt.Sprintf("More(%#x, %d bytes)", s, n)
			want(t, what, x.More(s, b[:n]), slowCRC(s, b[:n]))
			want(t, what, x.More(s, b[:n]), crc32.Update(s, crc32.IEEETable, b[:n]))
		}
	}
	want(t, "More of many", x.More(0, b), crc32.ChecksumIEEE(b))
	want(t, "More of noughts", x.More(0, filled(1000, 0)), crc32.ChecksumIEEE(filled(1000, 0)))
	want(t, "More of ones", x.More(0, filled(1000, 255)), crc32.ChecksumIEEE(filled(1000, 255)))
}

func TestMoreOfPartsIsTheWhole(t *testing.T) {
	cuts(t, noise(50), sums.New().More)
	x := sums.New()
	whole := string(noise(50))
	for i := range len(whole) + 1 {
		want(t, "a kind and its data, cut elsewhere", x.Chunk(whole[:i], []byte(whole[i:])), x.More(0, []byte(whole)))
	}
}

func TestATurnedBitIsAnotherSum(t *testing.T) {
	x := sums.New()
	seen := map[uint32]int{}
	data := noise(40)
	seen[x.Chunk("IDAT", data)] = -1
	for i := range 8 * len(data) {
		turned := bytes.Clone(data)
		turned[i/8] ^= 1 << (i % 8)
		sum := x.Chunk("IDAT", turned)
		if other, ok := seen[sum]; ok {
			t.Errorf("with bit %d turned the sum is that of %d (-1: of none turned)", i, other)
		}
		seen[sum] = i
	}
	if x.Chunk("IDAT", data) == x.Chunk("IDAt", data) {
		t.Error("another kind has the same sum")
	}
}

func TestNilTable(t *testing.T) {
	var none *sums.Table
	want(t, "nil More", none.More(9, []byte("abc")), 0)
	want(t, "nil More of no bytes", none.More(9, nil), 0)
	want(t, "nil Chunk", none.Chunk("IEND", []byte("abc")), 0)
	want(t, "nil Chunk of nothing", none.Chunk("", nil), 0)
}

// TestNothingIsKeptBetween: whatever a table was asked, and whoever holds another one, it answers as a new one.
func TestNothingIsKeptBetween(t *testing.T) {
	x, y := sums.New(), sums.New()
	if x == nil || y == nil {
		t.Fatal("New answers nil")
	}
	for i := range 100 {
		x.More(uint32(i)*0x01234567, noise(i))
		x.Chunk("tEXt", noise(i))
		want(t, "an old table", x.Chunk("IEND", nil), 0xae426082)
	}
	*x = sums.Table{}
	want(t, "a table beside one that is no more", y.Chunk("IEND", nil), 0xae426082)
	want(t, "a table behind one that is no more", sums.New().Chunk("IEND", nil), 0xae426082)
}

func TestChunkBytesAreNeitherChangedNorKept(t *testing.T) {
	x := sums.New()
	whole := noise(64)
	b := whole[:40]
	first := x.Chunk("IDAT", b)
	second := x.More(5, b)
	if !bytes.Equal(whole, noise(64)) {
		t.Error("the bytes handed in are changed")
	}
	clear(whole)
	want(t, "Chunk of the same bytes", x.Chunk("IDAT", noise(64)[:40]), first)
	want(t, "More of the same bytes", x.More(5, noise(64)[:40]), second)
	want(t, "Chunk of noughts", x.Chunk("IDAT", b), crc32.ChecksumIEEE(append([]byte("IDAT"), filled(40, 0)...)))
}
