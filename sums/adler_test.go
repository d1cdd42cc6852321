package sums_test

import (
	"bytes"
	"fmt"
	"hash/adler32"
	"testing"

	"engraver/sums"
)

// slowAdler goes on from s with numbers that can't wrap round: each half modulo 65521 with each byte.
func slowAdler(s uint32, b []byte) uint32 {
	one, two := uint64(s%65536), uint64(s/65536)
	for _, c := range b {
		one = (one + uint64(c)) % 65521
		two = (two + one) % 65521
	}
	return uint32(two*65536 + one)
}

func TestAdlerExamples(t *testing.T) {
	want(t, "Adler of abc", sums.Adler([]byte("abc")), 0x024d0127)
	want(t, "Adler of a", sums.Adler([]byte("a")), 0x00620062)
	want(t, "Adler of Wikipedia", sums.Adler([]byte("Wikipedia")), 0x11e60398)
	want(t, "Adler of one nought", sums.Adler([]byte{0}), 0x00010001)
	want(t, "Adler of 255", sums.Adler([]byte{255}), 0x01000100)
}

func TestAdlerOfNothing(t *testing.T) {
	want(t, "Adler of nothing", sums.Adler(nil), 1)
	want(t, "Adler of nothing", sums.Adler([]byte{}), 1)
	for _, s := range starts() {
		want(t, "AdlerMore of no bytes", sums.AdlerMore(s, nil), s)
		want(t, "AdlerMore of no bytes", sums.AdlerMore(s, []byte{}), s)
	}
}

func TestAdlerOfEachLength(t *testing.T) {
	b := noise(400)
	for n := range b {
		want(t, fmt.Sprintf("Adler of %d bytes", n), sums.Adler(b[:n]), adler32.Checksum(b[:n]))
		want(t, fmt.Sprintf("AdlerMore of %d bytes", n), sums.AdlerMore(1, b[:n]), adler32.Checksum(b[:n]))
	}
}

// TestAdlerOfManyBytes: so many, and so great, that a sum that is not reduced in time wraps round.
func TestAdlerOfManyBytes(t *testing.T) {
	for _, n := range []int{256, 257, 258, 5551, 5552, 5553, 5554, 65520, 65521, 65522, 70000, 1 << 20, 1<<22 + 1} {
		b := filled(n, 255)
		want(t, fmt.Sprintf("Adler of %d times 255", n), sums.Adler(b), slowAdler(1, b))
		want(t, fmt.Sprintf("Adler of %d times 255", n), sums.Adler(b), adler32.Checksum(b))
		want(t, fmt.Sprintf("AdlerMore of %d times 255", n), sums.AdlerMore(0xffffffff, b), slowAdler(0xffffffff, b))
	}
}

func TestAdlerMoreGoesOnFromAnySum(t *testing.T) {
	for _, b := range [][]byte{{0}, {1}, {255}, {0, 0}, {254, 1, 255}, filled(300, 0), filled(300, 255), noise(300)} {
		for _, s := range starts() {
			got := sums.AdlerMore(s, b)
			want(t, fmt.Sprintf("AdlerMore(%#x, %d bytes)", s, len(b)), got, slowAdler(s, b))
			if got>>16 >= 65521 || got&0xffff >= 65521 {
				t.Errorf("AdlerMore(%#x, %d bytes) = %#x: a half is not modulo 65521", s, len(b), got)
			}
		}
	}
}

func TestAdlerMoreAtTheModulus(t *testing.T) {
	for _, c := range []struct {
		s    uint32
		b    byte
		want uint32
	}{
		{0xfff0fff0, 0, 0xffeffff0}, // 65520 stays; 65520 and 65520 are 65519
		{0xfff0fff0, 1, 0xfff00000}, // 65521 is 0
		{0xfff1fff1, 0, 0x00000000}, // both halves 65521
		{0xffffffff, 0, 0x001c000e}, // both halves 14 above it
		{0xffff0000, 0, 0x000e0000},
		{0x0000ffff, 0, 0x000e000e},
		{0xfff10000, 255, 0x00ff00ff},
		{0x0000fff1, 255, 0x00ff00ff},
	} {
		want(t, fmt.Sprintf("AdlerMore(%#x, %d)", c.s, c.b), sums.AdlerMore(c.s, []byte{c.b}), c.want)
	}
}

func TestAdlerOfPartsIsTheWhole(t *testing.T) {
	cuts(t, noise(50), sums.AdlerMore)
	cuts(t, filled(50, 255), sums.AdlerMore)
	b := noise(20000)
	for _, at := range []int{0, 1, 5552, 10000, 19999, 20000} {
		want(t, fmt.Sprintf("cut at %d", at), sums.AdlerMore(sums.Adler(b[:at]), b[at:]), adler32.Checksum(b))
	}
}

func TestAdlerBytesAreNeitherChangedNorKept(t *testing.T) {
	whole := noise(64)
	b := whole[:40]
	first := sums.Adler(b)
	second := sums.AdlerMore(0xfffffff0, b)
	if !bytes.Equal(whole, noise(64)) {
		t.Error("the bytes handed in are changed")
	}
	clear(whole)
	want(t, "Adler of the same bytes", sums.Adler(noise(64)[:40]), first)
	want(t, "AdlerMore of the same bytes", sums.AdlerMore(0xfffffff0, noise(64)[:40]), second)
	want(t, "Adler of noughts", sums.Adler(b), 40<<16|1)
}
