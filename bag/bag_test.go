package bag_test

import (
	"bytes"
	"math"
	"math/rand"
	"slices"
	"testing"

	"gleanings/api"
	"gleanings/bag"
)

func mail(to int, text string) api.Mail {
	return api.Mail{From: to + 1, To: to, Bytes: []byte(text)}
}

func same(a, b api.Mail) bool {
	return a.From == b.From && a.To == b.To && bytes.Equal(a.Bytes, b.Bytes)
}

func of(t *testing.T, room int, l ...api.Mail) *bag.Bag {
	b, err := bag.New(room)
	if err != api.OK {
		t.Fatal(err)
	}
	for _, m := range l {
		b.Put(m)
	}
	return b
}

func all(b *bag.Bag) []api.Mail {
	var l []api.Mail
	for i, m := range b.All() {
		if i != len(l) {
			return nil
		}
		l = append(l, m)
	}
	return l
}

// P28.1: rooms, numbers, what is put and taken.
func TestBag(t *testing.T) {
	for _, room := range []int{-1, 4097} {
		if b, err := bag.New(room); b != nil || err != api.ErrArg {
			t.Error(room, err)
		}
	}
	if of(t, 4096).Room() != 4096 || of(t, 0).Put(mail(1, "a")) || of(t, 0).Len() != 0 {
		t.Error("rooms")
	}
	a, b, c := mail(1, "a"), mail(2, "bb"), mail(1, "")
	x := of(t, 3, a, b)
	if !x.Put(c) || x.Put(a) || x.Len() != 3 || x.Room() != 3 {
		t.Error("put")
	}
	for n, want := range map[int]api.Mail{0: a, 1: b, 2: c, 3: a, -1: c, -2: b, -3: a, -4: c, 301: b, -300: a} {
		if got, ok := x.At(n); !ok || !same(got, want) {
			t.Error(n, got)
		}
	}
	for _, n := range []int{math.MaxInt, math.MinInt} {
		if _, ok := x.At(n); !ok {
			t.Error(n)
		}
	}
	if x.Double(0) {
		t.Error("doubled without room")
	}
	if got, ok := x.Take(-2); !ok || !same(got, b) || x.Len() != 2 {
		t.Error("take", got)
	}
	if !x.Double(1) || !slices.EqualFunc(all(x), []api.Mail{a, c, c}, same) {
		t.Error("double", all(x))
	}
	if !x.Turn(0, 0, 3) || x.Turn(1, 0, 3) || x.Turn(0, 1, 3) || x.Turn(0, -1, 3) || !slices.EqualFunc(all(x), []api.Mail{mail(1, "b"), c, c}, same) {
		t.Error("turn", all(x))
	}
	x.Take(2)
	x.Double(0)
	x.Turn(0, 0, 1)
	if !slices.EqualFunc(all(x), []api.Mail{mail(1, "c"), c, mail(1, "b")}, same) {
		t.Error("a double turned, too", all(x))
	}
	x = of(t, 9, a, b, c, b, a)
	if x.Lose(7) != 0 || x.Lose(1) != 3 || !slices.EqualFunc(all(x), []api.Mail{b, b}, same) || x.Lose(2) != 2 || x.Len() != 0 {
		t.Error("lose", all(x))
	}
	got, ok := x.At(0)
	taken, okTake := x.Take(0)
	if ok || okTake || !same(got, api.Mail{}) || !same(taken, api.Mail{}) || x.Double(0) || x.Turn(0, 0, 1) || x.Lose(1) != 0 {
		t.Error("empty")
	}
	two := of(t, 2, a, b)
	if m, ok := two.Take(-1); !ok || !same(m, b) {
		t.Error("take of -1", m)
	}
}

// P28.2: iterators: as it was, again, left off.
func TestIterators(t *testing.T) {
	a, b, c := mail(1, "a"), mail(2, "bb"), mail(1, "c")
	x := of(t, 9, a, b, c)
	seq, one := x.All(), x.For(1)
	x.Turn(0, 0, 1)
	x.Take(1)
	x.Take(1)
	x.Put(b)
	for range 2 {
		var l, m []api.Mail
		var places []int
		for i, y := range seq {
			l, places = append(l, api.Mail{From: y.From, To: y.To, Bytes: bytes.Clone(y.Bytes)}), append(places, i)
			y.Bytes[0] = 0
		}
		for i, y := range one {
			m, places = append(m, y), append(places, i)
		}
		if !slices.EqualFunc(l, []api.Mail{a, b, c}, same) || !slices.EqualFunc(m, []api.Mail{a, c}, same) || !slices.Equal(places, []int{0, 1, 2, 0, 2}) {
			t.Error(l, m, places)
		}
	}
	n := 0
	for range seq {
		n++
		break
	}
	for range one {
		n++
		break
	}
	if n != 2 {
		t.Error(n)
	}
}

// P28.3: what is put is taken as it was put, once; nothing is shared.
func TestOnce(t *testing.T) {
	r := rand.New(rand.NewSource(38))
	x := of(t, 50)
	var model []api.Mail
	for step := range 5000 {
		n := r.Intn(200) - 100
		switch r.Intn(4) {
		case 0, 1:
			m := mail(r.Intn(3), string([]byte{byte(step), byte(step >> 8)}))
			if ok := x.Put(m); ok != (len(model) < 50) {
				t.Fatal("put", ok)
			} else if ok {
				model = append(model, api.Mail{From: m.From, To: m.To, Bytes: bytes.Clone(m.Bytes)})
			}
			m.Bytes[0] ^= 1
		case 2:
			got, ok := x.Take(n)
			if ok != (len(model) > 0) {
				t.Fatal("take", ok)
			}
			if ok {
				i := (n%len(model) + len(model)) % len(model)
				if !same(got, model[i]) {
					t.Fatal("taken", got, model[i])
				}
				got.Bytes[0] ^= 1
				model = slices.Delete(model, i, i+1)
			}
		case 3:
			if got, ok := x.At(n); ok {
				got.Bytes[0] ^= 1
			}
		}
		if x.Len() != len(model) || !slices.EqualFunc(all(x), model, same) {
			t.Fatal("unlike")
		}
	}
}

// P28.1: a nil bag.
func TestNil(t *testing.T) {
	var b *bag.Bag
	got, ok := b.At(0)
	taken, okTake := b.Take(0)
	if ok || okTake || !same(got, api.Mail{}) || !same(taken, api.Mail{}) || b.Len() != 0 || b.Room() != 0 || b.Put(mail(1, "a")) || b.Double(0) || b.Turn(0, 0, 1) || b.Lose(0) != 0 {
		t.Error("nil")
	}
	for range b.All() {
		t.Error("nil has mails")
	}
	for range b.For(0) {
		t.Error("nil has mails")
	}
}
