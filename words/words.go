// Package words is layer 1: see shared/doc/01-words.md.
package words

import (
	"math/bits"

	"cofferdam/api"
)

// wordBits and wordBytes are the size of a word.
const (
	wordBits  = 32
	wordBytes = 4
)

// Left: bits turned to the left.
func Left(x uint32, n int) uint32 {
	return bits.RotateLeft32(x, places(n))
}

// Right: bits turned to the right.
func Right(x uint32, n int) uint32 {
	return bits.RotateLeft32(x, wordBits-places(n))
}

// places: n modulo 32, from 0 on also of an n below 0. It is cut off n's lowest bits, since the least int has no opposite to count with.
func places(n int) int {
	return n & (wordBits - 1)
}

// Little: the words of a text, the lowest byte first.
func Little(s string) ([]uint32, api.Errno) {
	return split(s, func(b [wordBytes]byte) uint32 {
		return uint32(b[0]) | uint32(b[1])<<8 | uint32(b[2])<<16 | uint32(b[3])<<24
	})
}

// Big: the words of a text, the highest byte first.
func Big(s string) ([]uint32, api.Errno) {
	return split(s, func(b [wordBytes]byte) uint32 {
		return uint32(b[0])<<24 | uint32(b[1])<<16 | uint32(b[2])<<8 | uint32(b[3])
	})
}

// split: the words that a function makes of each four bytes of a text.
func split(s string, word func([wordBytes]byte) uint32) ([]uint32, api.Errno) {
	if len(s)%wordBytes != 0 {
		return nil, api.ErrShape
	}
	l := make([]uint32, len(s)/wordBytes)
	for i := range l {
		at := i * wordBytes
		l[i] = word([wordBytes]byte{s[at], s[at+1], s[at+2], s[at+3]})
	}
	return l, api.OK
}

// FromLittle: the text of words, the lowest byte first.
func FromLittle(l []uint32) string {
	return join(l, func(x uint32) [wordBytes]byte {
		return [wordBytes]byte{byte(x), byte(x >> 8), byte(x >> 16), byte(x >> 24)}
	})
}

// FromBig: the text of words, the highest byte first.
func FromBig(l []uint32) string {
	return join(l, func(x uint32) [wordBytes]byte {
		return [wordBytes]byte{byte(x >> 24), byte(x >> 16), byte(x >> 8), byte(x)}
	})
}

// join: the text of the four bytes that a function makes of each word.
func join(l []uint32, four func(uint32) [wordBytes]byte) string {
	text := make([]byte, 0, len(l)*wordBytes)
	for _, x := range l {
		b := four(x)
		text = append(text, b[0], b[1], b[2], b[3])
	}
	return string(text)
}

// Xor: two texts, combined.
func Xor(a, b string) string {
	text := make([]byte, min(len(a), len(b)))
	for i := range text {
		text[i] = a[i] ^ b[i]
	}
	return string(text)
}
