// Package sip is layer 1: see shared/doc/01-sip.md.
package sip

import (
	"math/bits"

	"belfry/api"
)

const (
	wordBytes  = 8   // bytes of a word
	wordRounds = 2   // rounds for each word of a text
	lastRounds = 4   // rounds behind the last word
	lastSign   = 255 // keeps the last rounds from being like those of one more word
)

// signs keep the four words unlike one another, whatever the key is.
var signs = [4]uint64{
	0x736f6d6570736575,
	0x646f72616e646f6d,
	0x6c7967656e657261,
	0x7465646279746573,
}

// state is the words a, b, c and d of a sum that isn't done yet.
type state [4]uint64

// round is on a pointer, so that its method value goes on with the words it was taken of.
func (v *state) round() {
	a, b, c, d := v[0], v[1], v[2], v[3]
	a += b
	b = Turn(b, 13) ^ a
	a = Turn(a, 32)
	c += d
	d = Turn(d, 16) ^ c
	a += d
	d = Turn(d, 21) ^ a
	c += b
	b = Turn(b, 17) ^ c
	c = Turn(c, 32)
	*v = state{a, b, c, d}
}

// begin answers the words ahead of a text's first one: each half of the key goes into two of them.
func begin(k api.Key) state {
	low := join(string(k[:wordBytes]))
	high := join(string(k[wordBytes:]))
	return state{low ^ signs[0], high ^ signs[1], low ^ signs[2], high ^ signs[3]}
}

// repeat is handed a method value, so that it need not know whose rounds they are.
func repeat(times int, do func()) {
	for range times {
		do()
	}
}

// count answers how many words a text has; the last one is there always, as it tells the length.
func count(s string) int { return len(s)/wordBytes + 1 }

// wordAt answers a text's i-th word, so that a sum needs no list of them.
func wordAt(s string, i int) uint64 {
	part := s[i*wordBytes:]
	if len(part) >= wordBytes {
		return join(part[:wordBytes])
	}
	return join(part) | uint64(len(s))<<56
}

// join answers the number of at most eight bytes, the lowest first.
func join(s string) uint64 {
	var x uint64
	for i := range len(s) {
		x |= uint64(s[i]) << (8 * i)
	}
	return x
}

// Turn turns a word left.
func Turn(x uint64, n int) uint64 { return bits.RotateLeft64(x, n) }

// Round answers four words behind a round.
func Round(v [4]uint64) [4]uint64 {
	w := state(v)
	w.round()
	return w
}

// Words answers a text's words.
func Words(s string) []uint64 {
	l := make([]uint64, count(s))
	for i := range l {
		l[i] = wordAt(s, i)
	}
	return l
}

// Sum answers a text's sum.
func Sum(k api.Key, s string) uint64 {
	v := begin(k)
	round := v.round
	for i := range count(s) {
		w := wordAt(s, i)
		v[3] ^= w
		repeat(wordRounds, round)
		v[0] ^= w
	}
	v[2] ^= lastSign
	repeat(lastRounds, round)
	return v[0] ^ v[1] ^ v[2] ^ v[3]
}

// Key answers the key of two words.
func Key(a, b uint64) api.Key {
	var k api.Key
	for i := range wordBytes {
		k[i] = byte(a >> (8 * i))
		k[wordBytes+i] = byte(b >> (8 * i))
	}
	return k
}
