// Package sip is layer 1: short sums with a key.
package sip

import (
	"math/bits"

	"gleanings/api"
)

// Sip is a sum of bytes that come.
type Sip struct {
	a, b, c, d uint64
	rest       uint64 // the bytes that don't make a whole word yet, the least first
	n          int
}

// Seed of a number.
func Seed(n int) api.SumKey {
	return api.SumKey{A: uint64(n), B: ^uint64(n)}
}

// New sum.
func New(k api.SumKey) *Sip {
	return &Sip{
		a: k.A ^ 0x736f6d6570736575,
		b: k.B ^ 0x646f72616e646f6d,
		c: k.A ^ 0x6c7967656e657261,
		d: k.B ^ 0x7465646279746573,
	}
}

// rounds stirs the four numbers so many times.
func (s *Sip) rounds(times int) {
	a, b, c, d := s.a, s.b, s.c, s.d
	for range times {
		a += b
		b = bits.RotateLeft64(b, 13) ^ a
		a = bits.RotateLeft64(a, 32)
		c += d
		d = bits.RotateLeft64(d, 16) ^ c
		a += d
		d = bits.RotateLeft64(d, 21) ^ a
		c += b
		b = bits.RotateLeft64(b, 17) ^ c
		c = bits.RotateLeft64(c, 32)
	}
	s.a, s.b, s.c, s.d = a, b, c, d
}

// word takes in a word of eight bytes.
func (s *Sip) word(w uint64) {
	s.d ^= w
	s.rounds(2)
	s.a ^= w
}

// single takes in one byte.
func (s *Sip) single(x byte) {
	s.rest |= uint64(x) << (8 * (s.n % 8))
	s.n++
	if s.n%8 == 0 {
		s.word(s.rest)
		s.rest = 0
	}
}

// load makes a word of the first eight bytes, the least first.
func load(b []byte) uint64 {
	var w uint64
	for i, x := range b[:8] {
		w |= uint64(x) << (8 * i)
	}
	return w
}

// Write bytes behind.
func (s *Sip) Write(b []byte) {
	if s == nil {
		return
	}
	for len(b) > 0 && s.n%8 != 0 {
		s.single(b[0])
		b = b[1:]
	}
	for len(b) >= 8 {
		s.word(load(b))
		s.n += 8
		b = b[8:]
	}
	for _, x := range b {
		s.single(x)
	}
}

// Len: how many bytes there are.
func (s *Sip) Len() int {
	if s == nil {
		return 0
	}
	return s.n
}

// Sum of the bytes.
func (s *Sip) Sum() uint64 {
	if s == nil {
		return 0
	}
	end := *s // a copy, so that s may go on
	end.word(s.rest | uint64(s.n)<<56)
	end.c ^= 0xff
	end.rounds(4)
	return end.a ^ end.b ^ end.c ^ end.d
}

// Clone of a sum.
func (s *Sip) Clone() *Sip {
	if s == nil {
		return nil
	}
	t := *s
	return &t
}

// Hash of bytes.
func Hash(k api.SumKey, b ...[]byte) uint64 {
	s := New(k)
	for _, part := range b {
		s.Write(part)
	}
	return s.Sum()
}

// Mark of bytes.
func Mark(b ...[]byte) api.Mark {
	var m api.Mark
	first, second := Hash(Seed(1), b...), Hash(Seed(2), b...)
	for i := range 8 {
		m[i] = byte(first >> (56 - 8*i))
		m[8+i] = byte(second >> (56 - 8*i))
	}
	return m
}
