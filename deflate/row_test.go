package deflate_test

import (
	"bytes"
	"fmt"
	"testing"
)

// wantRow asks for P5.3.
func wantRow(t *testing.T, value byte, n int) {
	t.Helper()
	wantSmall(t, fmt.Sprint(value, " ", n, " times"), bytes.Repeat([]byte{value}, n), n/10+64)
}

func TestRowOfEachByte(t *testing.T) {
	for value := range 256 {
		wantRow(t, byte(value), 1000)
	}
}

func TestRowsOfOneByte(t *testing.T) {
	for _, value := range []byte{0, 1, 127, 143, 144, 255} {
		for n := 1000; n < 1600; n++ {
			wantRow(t, value, n)
		}
		for _, n := range []int{2000, 32767, 32768, 32769, 32770, 65792, 65793, 100000, 1 << 20} {
			wantRow(t, value, n)
		}
		for _, n := range around(1, 2, 3, 7) {
			wantRow(t, value, n)
		}
	}
}

func TestRowsUpToTheLimit(t *testing.T) {
	for _, value := range []byte{0, 255} {
		for _, n := range []int{limit - 258, limit - 1, limit} {
			wantRow(t, value, n)
		}
	}
}
