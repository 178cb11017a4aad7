// Package pack is layer 1: see shared/doc/01-pack.md.
package pack

import "quayside/api"

const (
	maxWidth  = 8
	maxText   = 255
	textWidth = 1
)

func rightWidth(width int) bool {
	return 1 <= width && width <= maxWidth
}

// Fits tells whether a number fits into so many bytes.
func Fits(width int, n uint64) bool {
	// A shift by all 64 bits leaves 0, so the width 8 needs no case of its own.
	return rightWidth(width) && n>>(8*width) == 0
}

// longer copies b, since an append to b itself could write into memory behind
// its length that is the caller's.
func longer(b []byte, more int) []byte {
	out := make([]byte, len(b), len(b)+more)
	copy(out, b)
	return out
}

// Put puts a number behind bytes.
func Put(b []byte, width int, n uint64) ([]byte, api.Errno) {
	if !Fits(width, n) {
		return nil, api.ErrArg
	}
	out := longer(b, width)
	for i := range width {
		out = append(out, byte(n>>(8*(width-1-i))))
	}
	return out, api.OK
}

// Take takes the number that stands at a place.
func Take(b []byte, at, width int) (uint64, api.Errno) {
	if !rightWidth(width) || at < 0 {
		return 0, api.ErrArg
	}
	// Not at+width > len(b): that sum could wrap round.
	if len(b)-at < width {
		return 0, api.ErrShort
	}
	var n uint64
	for i := range width {
		n = n<<8 | uint64(b[at+i])
	}
	return n, api.OK
}

// PutText puts a text behind bytes.
func PutText(b []byte, s string) ([]byte, api.Errno) {
	if len(s) > maxText {
		return nil, api.ErrArg
	}
	out := longer(b, textWidth+len(s))
	out = append(out, byte(len(s)))
	return append(out, s...), api.OK
}

// TakeText takes the text that stands at a place, and tells the place behind it.
func TakeText(b []byte, at int) (string, int, api.Errno) {
	size, errno := Take(b, at, textWidth)
	if errno != api.OK {
		return "", 0, errno
	}
	from := at + textWidth
	if len(b)-from < int(size) {
		return "", 0, api.ErrShort
	}
	end := from + int(size)
	return string(b[from:end]), end, api.OK
}
