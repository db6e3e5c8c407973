package sip_test

import (
	"encoding/binary"
	"testing"

	"gleanings/api"
	"gleanings/sip"
)

var known = api.SumKey{A: 0x0706050403020100, B: 0x0f0e0d0c0b0a0908}

// rising are the bytes 0, 1, 2, ...
func rising(n int) []byte {
	b := make([]byte, n)
	for i := range b {
		b[i] = byte(i)
	}
	return b
}

// P1.1: seeds, sums that are known, and marks made of two sums.
func TestSeedsAndHashes(t *testing.T) {
	if sip.Seed(3) != (api.SumKey{A: 3, B: 0xfffffffffffffffc}) || sip.Seed(-1) != (api.SumKey{A: 1<<64 - 1}) {
		t.Error("seeds", sip.Seed(3), sip.Seed(-1))
	}
	for n, want := range map[int]uint64{
		0: 0x726fdb47dd0e0e31, 1: 0x74f839c593dc67fd, 2: 0x0d6c8009d9a94f5a, 3: 0x85676696d7fb7e2d,
		7: 0xab0200f58b01d137, 8: 0x93f5f5799a932462, 9: 0x9e0082df0ba9e4b0, 15: 0xa129ca6149be45e5, 63: 0x958a324ceb064572,
	} {
		if got := sip.Hash(known, rising(n)); got != want {
			t.Errorf("%d bytes: %x, not %x", n, got, want)
		}
	}
	if sip.Hash(known) != 0x726fdb47dd0e0e31 || sip.Hash(known, nil, nil) != 0x726fdb47dd0e0e31 {
		t.Error("sum of no parts")
	}
	m := sip.Mark([]byte("a"), []byte("bc"))
	if binary.BigEndian.Uint64(m[:8]) != sip.Hash(sip.Seed(1), []byte("abc")) ||
		binary.BigEndian.Uint64(m[8:]) != sip.Hash(sip.Seed(2), []byte("abc")) {
		t.Errorf("mark %x", m)
	}
}

// P1.2: a Sip goes on behind Sum, a clone is apart, nil is told.
func TestSipObject(t *testing.T) {
	s := sip.New(known)
	if s.Len() != 0 || s.Sum() != 0x726fdb47dd0e0e31 {
		t.Error("new one")
	}
	s.Write(rising(3))
	if s.Sum() != 0x85676696d7fb7e2d || s.Sum() != 0x85676696d7fb7e2d || s.Len() != 3 {
		t.Error("sum changes the sip")
	}
	c := s.Clone()
	c.Write([]byte{9})
	s.Write(rising(15)[3:])
	if s.Sum() != 0xa129ca6149be45e5 || s.Len() != 15 || c.Len() != 4 || c.Sum() != sip.Hash(known, []byte{0, 1, 2, 9}) {
		t.Error("clone isn't apart")
	}
	var none *sip.Sip
	none.Write(rising(2))
	if none.Len() != 0 || none.Sum() != 0 || none.Clone() != nil {
		t.Error("nil")
	}
}

// P1.3: the parts in which bytes come say nothing; above 255 bytes, too.
func TestParts(t *testing.T) {
	b := rising(300)
	for _, n := range []int{0, 5, 8, 17, 24, 256, 300} {
		want := sip.Hash(known, b[:n])
		for cut := 0; cut <= n; cut += 3 {
			if sip.Hash(known, b[:cut], nil, b[cut:n]) != want {
				t.Errorf("%d cut at %d", n, cut)
			}
		}
		s := sip.New(known)
		for _, x := range b[:n] {
			s.Write([]byte{x})
		}
		if s.Sum() != want || s.Len() != n {
			t.Errorf("%d byte by byte", n)
		}
	}
	if sip.Hash(known, make([]byte, 8)) == sip.Hash(known, make([]byte, 9)) {
		t.Error("length isn't summed")
	}
}
