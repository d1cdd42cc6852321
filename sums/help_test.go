package sums_test

import "testing"

// noise answers n bytes that look like none in particular, the same ones at each call.
func noise(n int) []byte {
	out := make([]byte, n)
	x := uint32(12345)
	for i := range out {
		x = x*1664525 + 1013904223
		out[i] = byte(x >> 24)
	}
	return out
}

// filled answers n bytes that are all c.
func filled(n int, c byte) []byte {
	out := make([]byte, n)
	for i := range out {
		out[i] = c
	}
	return out
}

// starts are sums to go on from: the least, the greatest, halves at and about 65521, and some of no kind.
func starts() []uint32 {
	out := []uint32{0, 1, 7, 0x80000000, 0xdeadbeef, 0xffffffff}
	for _, two := range []uint32{0, 1, 65520, 65521, 65522, 65535} {
		for _, one := range []uint32{0, 1, 65265, 65266, 65520, 65521, 65522, 65535} {
			out = append(out, two<<16|one)
		}
	}
	return out
}

func want(t *testing.T, what string, got, want uint32) {
	t.Helper()
	if got != want {
		t.Errorf("%s = %#08x, want %#08x", what, got, want)
	}
}

// cuts checks that more goes on over any cut of b, from each start, as over the whole.
func cuts(t *testing.T, b []byte, more func(uint32, []byte) uint32) {
	t.Helper()
	for _, s := range starts() {
		whole := more(s, b)
		for i := 0; i <= len(b); i++ {
			want(t, "two parts", more(more(s, b[:i]), b[i:]), whole)
		}
		for _, step := range []int{1, 2, 3, 7, 16} {
			sum := s
			for at := 0; at < len(b); at += step {
				sum = more(sum, b[at:min(at+step, len(b))])
				sum = more(sum, nil)
			}
			want(t, "many parts", sum, whole)
		}
	}
}
