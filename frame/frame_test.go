package frame_test

import (
	"bytes"
	"math/rand"
	"slices"
	"testing"

	"gleanings/api"
	"gleanings/frame"
	"gleanings/pen"
	"gleanings/sip"
)

// summed puts the sum behind bytes.
func summed(b ...byte) []byte {
	h := sip.Hash(sip.Seed(5), b)
	for i := range 8 {
		b = append(b, byte(h>>(56-8*i)))
	}
	return b
}

// P19.1: what is right, and its bytes.
func TestPut(t *testing.T) {
	if got := frame.Put(api.Frame{Kind: 14, Body: []byte{1, 0}}); !bytes.Equal(got, summed(0x47, 14, 2, 1, 0)) {
		t.Errorf("%x", got)
	}
	for _, f := range []api.Frame{{}, {Kind: -1}, {Kind: 15}, {Kind: 1, Body: make([]byte, 2049)}} {
		if frame.Right(f) || len(frame.Put(f)) > 0 {
			t.Error("isn't right:", f.Kind)
		}
	}
	for n, want := range map[int]int{0: 11, 247: 258, 248: 260, 255: 267, 256: 269, 2048: 2061, -1: 0, 2049: 0} {
		if got := frame.Cost(n); got != want {
			t.Error(n, got)
		}
		if want > 0 && len(frame.Put(api.Frame{Kind: 1, Body: make([]byte, n)})) != want {
			t.Error("bytes of", n)
		}
	}
}

// P19.1: errors as they come.
func TestReadErrors(t *testing.T) {
	long := pen.Pen{}
	long.Fixed([]byte{0x47, 1})
	long.Number(2049)
	good := summed(0x47, 3, 1, 9)
	for i, c := range []struct {
		b    []byte
		want api.Errno
	}{
		{nil, api.ErrEnd}, {[]byte{0x48}, api.ErrForm}, {[]byte{0x47}, api.ErrEnd}, {[]byte{0x47, 248}, api.ErrEnd}, {[]byte{0x47, 248, 1}, api.ErrForm},
		{[]byte{0x47, 15}, api.ErrLong}, {[]byte{0x47, 0}, api.ErrForm}, {[]byte{0x47, 0, 248}, api.ErrForm}, {[]byte{0x47, 1}, api.ErrEnd}, {[]byte{0x47, 1, 248, 247}, api.ErrForm},
		{long.Bytes(), api.ErrLong}, {[]byte{0x47, 1, 2, 0}, api.ErrEnd}, {good[:len(good)-1], api.ErrEnd}, {frame.Turn(good, 3, 1), api.ErrSum},
		{append(frame.Turn(good, 3, 1), 0), api.ErrSum}, {append(slices.Clone(good), 0), api.ErrTrail}, {append(slices.Clone(good), good...), api.ErrTrail}, {good, api.OK},
		{append(summed(append([]byte{0x47, 1, 249, 8, 0}, make([]byte, 2048)...)...), 1), api.ErrTrail},
	} {
		f, err := frame.Read(c.b)
		if err != c.want || err != api.OK && (f.Kind != 0 || len(f.Body) > 0) {
			t.Error(i, err, c.want)
		}
	}
	if f, err := frame.Read(good); err != api.OK || f.Kind != 3 || !bytes.Equal(f.Body, []byte{9}) {
		t.Error(f, err)
	}
}

// P19.2: frames that stand behind one another, and turned bytes.
func TestAllAndTurn(t *testing.T) {
	a, b := frame.Put(api.Frame{Kind: 1, Body: []byte("a")}), frame.Put(api.Frame{Kind: 2, Body: make([]byte, 2048)})
	all := slices.Concat(a, b, a, a[:5])
	seq := frame.All(all)
	clear(all)
	for range 2 {
		var places, kinds []int
		for at, f := range seq {
			places, kinds = append(places, at), append(kinds, f.Kind)
			clear(f.Body)
		}
		if !slices.Equal(places, []int{0, len(a), len(a) + len(b)}) || !slices.Equal(kinds, []int{1, 2, 1}) {
			t.Error(places, kinds)
		}
	}
	for at := range seq {
		if at > 0 {
			t.Error("goes on")
		}
		break
	}
	for range frame.All(slices.Concat([]byte{0}, a)) {
		t.Error("not from the first byte on")
	}
	l := []byte{1, 2, 3}
	got := frame.Turn(l, 1, 0xf0)
	if !bytes.Equal(got, []byte{1, 0xf2, 3}) || l[1] != 2 {
		t.Error(got, l)
	}
	if got = frame.Turn(l, 0, 3); !bytes.Equal(got, []byte{2, 2, 3}) {
		t.Error(got)
	}
	for _, at := range []int{-1, 3, 1 << 40} {
		if got := frame.Turn(l, at, 1); !bytes.Equal(got, l) {
			t.Error(at, got)
		}
	}
	if got := frame.Turn(l, -1, 1); &got[0] == &l[0] {
		t.Error("no copy")
	}
}

// P19.3: what is put is read; cut short, longer, or with another sum it isn't.
func TestPutIsRead(t *testing.T) {
	r := rand.New(rand.NewSource(29))
	for range 200 {
		f := api.Frame{Kind: 1 + r.Intn(14), Body: make([]byte, r.Intn(300))}
		r.Read(f.Body)
		b := frame.Put(f)
		got, err := frame.Read(b)
		if err != api.OK || got.Kind != f.Kind || !bytes.Equal(got.Body, f.Body) {
			t.Fatal(f, got, err)
		}
		for cut := range b {
			if _, err := frame.Read(b[:cut]); err == api.OK {
				t.Fatal("cut short at", cut)
			}
		}
		for i := range 8 {
			if _, err := frame.Read(frame.Turn(b, len(b)-1-i, byte(1+r.Intn(255)))); err != api.ErrSum {
				t.Fatal("another sum", err)
			}
		}
		if _, err := frame.Read(append(b, 0)); err != api.ErrTrail {
			t.Fatal("trail", err)
		}
	}
}
