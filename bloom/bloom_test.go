package bloom_test

import (
	"bytes"
	"math/rand"
	"slices"
	"testing"

	"gleanings/api"
	"gleanings/bloom"
	"gleanings/pen"
	"gleanings/sip"
)

func some(r *rand.Rand, n int) []api.Mark {
	l := make([]api.Mark, n)
	for i := range l {
		r.Read(l[i][:])
	}
	return l
}

func of(t *testing.T, n int, l ...api.Mark) *bloom.Filter {
	f, err := bloom.New(n)
	if err != api.OK {
		t.Fatal(err)
	}
	for _, m := range l {
		f.Add(m)
	}
	return f
}

func put(f *bloom.Filter) []byte {
	var p pen.Pen
	f.Put(&p)
	return p.Bytes()
}

// P15.1: sizes, places, bits, unions, what is lacking.
func TestFilter(t *testing.T) {
	for n, want := range map[int]bool{-64: false, 0: false, 56: false, 63: false, 64: true, 65: false, 72: true, 8192: true, 8200: false} {
		f, err := bloom.New(n)
		if bloom.Fits(n) != want || (f != nil) != want || (err == api.OK) != want || !want && err != api.ErrArg {
			t.Error(n, err)
		}
		if want && (f.Bits() != n || f.Count() != 0) || !want && bloom.Places(n, api.Mark{1}) != [4]int{} {
			t.Error(n)
		}
	}
	r := rand.New(rand.NewSource(19))
	for _, m := range some(r, 100) {
		h := sip.Hash(sip.Seed(8), m[:])
		set := map[int]bool{}
		for i, at := range bloom.Places(72, m) {
			if at != int(h>>(16*i)&0xffff)%72 {
				t.Fatal(m, i, at)
			}
			set[at] = true
		}
		f := of(t, 72, m)
		if f.Count() != len(set) || !f.May(m) {
			t.Fatal(m, f.Count())
		}
		b := put(f)
		for i := range 72 {
			if (b[1+i/8]>>(i%8)&1 == 1) != set[i] {
				t.Fatal("bit", i)
			}
		}
	}
	l := some(r, 40)
	f, g := of(t, 512, l[:10]...), of(t, 512, l[10:20]...)
	u, err := f.Union(g)
	if all := of(t, 512, l[:20]...); err != api.OK || !bytes.Equal(put(u), put(all)) {
		t.Error("union", err)
	}
	before := put(f)
	for _, m := range l {
		u.Add(m)
	}
	if u, _ = f.Union(g); !bytes.Equal(put(f), before) || bytes.Equal(put(u), before) {
		t.Error("a union isn't apart")
	}
	if u, err := f.Union(of(t, 520)); u != nil || err != api.ErrArg {
		t.Error("unlike sizes", err)
	}
}

// P15.1: what is lacking, as it was when it was asked.
func TestLacks(t *testing.T) {
	r := rand.New(rand.NewSource(20))
	l := some(r, 30)
	f := of(t, 512, l[:10]...)
	var want []int
	for i, m := range l {
		if !f.May(m) {
			want = append(want, i)
		}
	}
	list := slices.Clone(l)
	seq := f.Lacks(list)
	for i, m := range l {
		f.Add(m)
		list[i] = api.Mark{}
	}
	for range 2 {
		var got []int
		for i, m := range seq {
			if got = append(got, i); m != l[i] {
				t.Error("mark", i)
			}
		}
		if !slices.Equal(got, want) || len(got) < 10 {
			t.Error(got, want)
		}
	}
	n := 0
	for range seq {
		if n++; n == 2 {
			break
		}
	}
	for i, m := range of(t, 64).Lacks(l[:1]) {
		if n++; i != 0 || m != l[0] {
			t.Error(i)
		}
	}
	if n != 3 {
		t.Error("of no marks all are lacking", n)
	}
	var none *bloom.Filter
	none.Add(l[0])
	for range none.Lacks(l) {
		t.Error("nil lacks")
	}
	u, err := none.Union(f)
	v, errV := f.Union(none)
	if none.Bits() != 0 || none.May(l[0]) || none.Count() != 0 || u != nil || v != nil || err != api.ErrNil || errV != api.ErrNil || len(put(none)) > 0 {
		t.Error("nil")
	}
}

// P15.2: bytes and their errors.
func TestBytes(t *testing.T) {
	r := rand.New(rand.NewSource(21))
	for _, n := range []int{64, 2048, 8192} {
		f := of(t, n, some(r, 9)...)
		b := put(f)
		e := pen.Read(b)
		g := bloom.Get(e)
		if g == nil || e.End() != api.OK || g.Bits() != n || !bytes.Equal(put(g), b) || len(b) != pen.Size(uint64(n/8))+n/8 {
			t.Error(n)
		}
	}
	number := func(u uint64, rest int) []byte {
		var p pen.Pen
		p.Number(u)
		p.Fixed(make([]byte, rest))
		return p.Bytes()
	}
	for _, c := range []struct {
		b    []byte
		want api.Errno
	}{{nil, api.ErrEnd}, {number(1025, 1025), api.ErrLong}, {number(1025, 0), api.ErrLong}, {number(7, 7), api.ErrForm}, {number(0, 0), api.ErrForm}, {number(7, 0), api.ErrForm}, {number(8, 7), api.ErrEnd}, {[]byte{248, 8}, api.ErrForm}} {
		e := pen.Read(c.b)
		if f := bloom.Get(e); f != nil || e.Err() != c.want {
			t.Error(c.b, e.Err())
		}
	}
	if bloom.Get(nil) != nil {
		t.Error("nil eye")
	}
	of(t, 64).Put(nil)
}

// P15.3: what was added a filter may have, a union of it, too.
func TestMay(t *testing.T) {
	r := rand.New(rand.NewSource(22))
	for range 50 {
		l := some(r, 30)
		f := of(t, 128, l...)
		u, _ := of(t, 128, some(r, 3)...).Union(f)
		for _, m := range l {
			if !f.May(m) || !u.May(m) {
				t.Fatal("lacks what was added")
			}
		}
		for range f.Lacks(l) {
			t.Fatal("lacks what was added")
		}
	}
}
