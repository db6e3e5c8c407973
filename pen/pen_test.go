package pen_test

import (
	"bytes"
	"math"
	"testing"

	"gleanings/api"
	"gleanings/pen"
)

// edges are numbers at which the way of writing changes.
func edges() []uint64 {
	l := []uint64{0, 1, 2, 246, 247, 248, 255, 256, 257}
	for k := 2; k < 9; k++ {
		top := uint64(1)<<(8*k-1)<<1 - 1
		l = append(l, top-1, top)
		if k < 8 {
			l = append(l, top+1, top+2)
		}
	}
	return l
}

func number(u uint64) []byte {
	var p pen.Pen
	p.Number(u)
	return p.Bytes()
}

// P2.1: signed numbers, sizes, and words up to the first place that has none.
func TestNumbers(t *testing.T) {
	for n, u := range map[int]uint64{0: 0, -1: 1, 1: 2, -2: 3, 5: 10, math.MaxInt: math.MaxUint64 - 1, math.MinInt: math.MaxUint64} {
		if pen.Zig(n) != u || pen.Zag(u) != n {
			t.Error(n, pen.Zig(n), pen.Zag(u))
		}
	}
	for u, size := range map[uint64]int{0: 1, 247: 1, 248: 2, 255: 2, 256: 3, 65535: 3, 65536: 4, 1 << 56: 9, 1<<56 - 1: 8, math.MaxUint64: 9} {
		if pen.Size(u) != size || len(number(u)) != size {
			t.Error(u, pen.Size(u))
		}
	}
	b := []byte{1, 247, 248, 248, 249, 1, 0, 248, 5, 9}
	words := pen.Words(b)
	b[0] = 7
	for range 2 {
		var places []int
		var got []uint64
		for at, u := range words {
			places, got = append(places, at), append(got, u)
		}
		if len(got) != 4 || got[0] != 1 || got[1] != 247 || got[2] != 248 || got[3] != 256 || places[3] != 4 || places[2] != 2 {
			t.Error(places, got)
		}
	}
	for at := range words {
		if at != 0 {
			t.Error("left off, but went on")
		}
		break
	}
	for range pen.Words(nil) {
		t.Error("a word of nothing")
	}
}

// P2.2: what a pen writes.
func TestPen(t *testing.T) {
	var p pen.Pen
	if len(p.Bytes()) != 0 {
		t.Error("the zero value has something")
	}
	p.Number(248)
	p.Signed(-2)
	p.Text([]byte("ab"))
	p.Text(nil)
	p.Fixed([]byte{7})
	p.Number(65536)
	want := []byte{0xf8, 0xf8, 3, 2, 'a', 'b', 0, 7, 0xfa, 1, 0, 0}
	got := p.Bytes()
	if !bytes.Equal(got, want) {
		t.Errorf("%x", got)
	}
	got[0] = 0
	if p.Number(1); !bytes.Equal(p.Bytes(), append(want, 1)) {
		t.Error("an answer is shared")
	}
	var none *pen.Pen
	none.Number(1)
	none.Signed(1)
	none.Text([]byte{1})
	none.Fixed([]byte{1})
	if len(none.Bytes()) != 0 {
		t.Error("nil pen")
	}
}

// P2.3: each error of an eye, which keeps the first one.
func TestEyeErrors(t *testing.T) {
	for _, c := range []struct {
		b    []byte
		read func(e *pen.Eye)
		want api.Errno
	}{
		{nil, func(e *pen.Eye) { e.Number(9) }, api.ErrEnd},
		{[]byte{249, 0}, func(e *pen.Eye) { e.Number(9) }, api.ErrEnd},
		{[]byte{255, 0, 0, 0, 0, 0, 0, 0}, func(e *pen.Eye) { e.Number(9) }, api.ErrEnd},
		{[]byte{248, 247}, func(e *pen.Eye) { e.Number(9) }, api.ErrForm},
		{[]byte{249, 0, 255}, func(e *pen.Eye) { e.Number(9) }, api.ErrForm},
		{[]byte{10}, func(e *pen.Eye) { e.Number(9) }, api.ErrLong},
		{[]byte{9}, func(e *pen.Eye) { e.Number(9) }, api.OK},
		{[]byte{248}, func(e *pen.Eye) { e.Signed() }, api.ErrEnd},
		{[]byte{248, 0}, func(e *pen.Eye) { e.Signed() }, api.ErrForm},
		{[]byte{3, 1, 2, 3}, func(e *pen.Eye) { e.Text(2) }, api.ErrLong},
		{[]byte{3, 1, 2}, func(e *pen.Eye) { e.Text(3) }, api.ErrEnd},
		{[]byte{0}, func(e *pen.Eye) { e.Text(-1) }, api.ErrLong},
		{[]byte{248, 1}, func(e *pen.Eye) { e.Text(-1) }, api.ErrForm},
		{[]byte{255, 255, 255, 255, 255, 255, 255, 255, 255}, func(e *pen.Eye) { e.Text(math.MaxInt) }, api.ErrLong},
		{[]byte{1}, func(e *pen.Eye) { e.Fixed(-1) }, api.ErrArg},
		{[]byte{1}, func(e *pen.Eye) { e.Fixed(2) }, api.ErrEnd},
		{[]byte{1}, func(e *pen.Eye) { e.Fixed(math.MaxInt) }, api.ErrEnd},
		{[]byte{1}, func(e *pen.Eye) { e.Fail(api.ErrSum); e.Fail(api.ErrArg) }, api.ErrSum},
		{[]byte{1}, func(e *pen.Eye) { e.Fail(api.OK); e.Fixed(1) }, api.OK},
		{[]byte{1}, func(e *pen.Eye) { e.End() }, api.ErrTrail},
	} {
		e := pen.Read(c.b)
		c.read(e)
		if e.Err() != c.want || e.Left() != 0 || e.End() != c.want {
			t.Error(c.b, e.Err(), c.want, e.Left())
		}
		if c.want != api.OK && (e.Number(9) != 0 || e.Signed() != 0 || len(e.Text(9)) != 0 || len(e.Fixed(0)) != 0 || e.Err() != c.want) {
			t.Error(c.b, "reads behind an error")
		}
	}
}

// P2.3: what is read in order, and a nil eye.
func TestEyeReads(t *testing.T) {
	b := []byte{5, 3, 2, 'a', 'b', 1, 2, 9}
	e := pen.Read(b)
	clear(b)
	if e.Number(5) != 5 || e.Signed() != -2 || string(e.Text(2)) != "ab" || e.Left() != 3 {
		t.Error("numbers and texts")
	}
	f := e.Fixed(2)
	if !bytes.Equal(f, []byte{1, 2}) || len(e.Fixed(0)) != 0 || e.Err() != api.OK || e.Left() != 1 {
		t.Error("fixed", f)
	}
	_ = append(f, 77)
	if e.Number(9) != 9 || e.End() != api.OK || e.Number(9) != 0 || e.End() != api.ErrEnd {
		t.Error("end")
	}
	trail := pen.Read([]byte{1})
	if trail.End() != api.ErrTrail || trail.Number(9) != 0 || trail.Err() != api.ErrTrail {
		t.Error("ErrTrail isn't kept")
	}
	var none *pen.Eye
	none.Fail(api.ErrSum)
	if none.Number(9) != 0 || none.Signed() != 0 || none.Text(9) != nil || none.Fixed(1) != nil || none.Left() != 0 || none.Err() != api.ErrNil || none.End() != api.ErrNil {
		t.Error("nil eye")
	}
}

// P2.4: what is written is read; bytes keep the order, and none is the beginning of another one's.
func TestOrder(t *testing.T) {
	l := edges()
	for i, u := range l {
		b := number(u)
		if e := pen.Read(b); e.Number(math.MaxUint64) != u || e.End() != api.OK {
			t.Error("isn't read", u)
		}
		for _, v := range l[:i] {
			if a := number(v); bytes.Compare(a, b) >= 0 || bytes.HasPrefix(b, a) || bytes.HasPrefix(a, b) {
				t.Errorf("%d and %d: %x %x", v, u, a, b)
			}
		}
		var p pen.Pen
		p.Signed(int(u))
		p.Text(b)
		if e := pen.Read(p.Bytes()); e.Signed() != int(u) || !bytes.Equal(e.Text(9), b) || e.End() != api.OK {
			t.Error("signed or text", u)
		}
	}
}
