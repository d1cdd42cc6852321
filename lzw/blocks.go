package lzw

import "engraver/api"

// pieceBytes is what goes into one piece, whose length is told by a byte.
const pieceBytes = 255

// Blocks cuts b into pieces, each with its length ahead, an empty one last.
func Blocks(b []byte) []byte {
	var out []byte
	for len(b) > 0 {
		n := min(len(b), pieceBytes)
		out = append(out, byte(n))
		out = append(out, b[:n]...)
		b = b[n:]
	}
	return append(out, 0)
}

// Unblock answers the bytes of the pieces at the beginning of b, up to the empty one, and how many bytes of b they took.
func Unblock(b []byte) ([]byte, int, api.Errno) {
	var out []byte
	for at := 0; at < len(b); {
		n := int(b[at])
		at++
		if n == 0 {
			return out, at, api.OK
		}
		if n > len(b)-at {
			break
		}
		out = append(out, b[at:at+n]...)
		at += n
	}
	return nil, 0, api.ErrShort
}
