package ver_test

import (
	"bytes"
	"math/rand"
	"slices"
	"strings"
	"testing"

	"gleanings/api"
	"gleanings/pen"
	"gleanings/sip"
	"gleanings/ver"
)

func item(t *testing.T, s string) api.Item {
	x, ok := ver.Parse(s)
	if !ok {
		t.Fatal("no item:", s)
	}
	return x
}

// runs is a clock of so many runs of node 1.
func runs(n int) api.Clock {
	var c api.Clock
	for i := range n {
		c = append(c, api.Run{Node: 1, From: 2*i + 1, To: 2*i + 1})
	}
	return c
}

// wrong are items that aren't right.
func wrong() []api.Item {
	fine := api.Item{Key: "k", Dot: api.Dot{Node: 0, N: 3}, Value: []byte("v")}
	var l []api.Item
	add := func(change func(x *api.Item)) {
		x := fine
		change(&x)
		l = append(l, x)
	}
	add(func(x *api.Item) { x.Key = "" })
	add(func(x *api.Item) { x.Key = strings.Repeat("k", 25) })
	add(func(x *api.Item) { x.Dot.Node = 8 })
	add(func(x *api.Item) { x.Dot.N = 0 })
	add(func(x *api.Item) { x.Dot.N = api.MostCount + 1 })
	add(func(x *api.Item) { x.Past = api.Clock{{Node: 0, From: 3, To: 3}} })
	add(func(x *api.Item) { x.Past = api.Clock{{Node: 0, From: 1, To: 9}} })
	add(func(x *api.Item) { x.Past = api.Clock{{Node: 1, From: 0, To: 9}} })
	add(func(x *api.Item) { x.Past = runs(33) })
	add(func(x *api.Item) { x.Gone = true })
	add(func(x *api.Item) { x.Value = make([]byte, 65) })
	return l
}

// random right item.
func random(r *rand.Rand) api.Item {
	x := api.Item{Key: string([]byte{byte(r.Intn(3))}) + strings.Repeat("x", r.Intn(2)), Dot: api.Dot{Node: r.Intn(3), N: 5 + r.Intn(3)}}
	if r.Intn(3) > 0 {
		x.Past = append(x.Past, api.Run{Node: r.Intn(4), From: 1, To: 1 + r.Intn(4)})
	}
	if x.Gone = r.Intn(4) == 0; !x.Gone {
		x.Value = make([]byte, r.Intn(3))
		r.Read(x.Value)
	}
	return x
}

// P4.1: what is right, above, the same, and marks.
func TestRight(t *testing.T) {
	fine := api.Item{Key: strings.Repeat("\xff", 24), Dot: api.Dot{Node: 7, N: api.MostCount}, Past: runs(32), Value: make([]byte, 64)}
	if !ver.Right(fine) || !ver.Right(api.Item{Key: "k", Dot: api.Dot{N: 1}, Gone: true, Value: []byte{}}) {
		t.Error("right ones")
	}
	for i, x := range wrong() {
		if ver.Right(x) || ver.Above(x, x) || ver.Compare(x, fine) != 0 || ver.Compare(fine, x) != 0 || ver.Mark(x) != (api.Mark{}) || ver.Text(x) != "" || len(ver.Bytes(x)) > 0 {
			t.Error(i, "isn't right")
		}
		var p pen.Pen
		if ver.Put(&p, x) || len(p.Bytes()) > 0 || !ver.Same(x, ver.Clone(x)) {
			t.Error(i, "put or same")
		}
	}
	a, b := item(t, "6b 0:3 [1:2] 7631"), item(t, "6b 1:2 [-] .")
	if !ver.Above(a, b) || ver.Above(b, a) || ver.Above(item(t, "6c 0:3 [1:2] 7631"), b) || ver.Above(a, item(t, "6b 1:1 [-] .")) {
		t.Error("above")
	}
	for _, s := range []string{"6c 0:3 [1:2] 7631", "6b 0:4 [1:2] 7631", "6b 0:3 [1:1] 7631", "6b 0:3 [1:2] 7632", "6b 0:3 [1:2] ."} {
		if ver.Same(a, item(t, s)) {
			t.Error("same:", s)
		}
	}
	if ver.Same(item(t, "6b 0:3 [-] ."), item(t, "6b 0:3 [-] gone")) || !ver.Same(a, item(t, "6b 0:3 [1:2] 7631")) {
		t.Error("same")
	}
	if ver.Mark(a) != sip.Mark(ver.Bytes(a)) || ver.Hex(api.Mark{0x0a, 15: 0xf0}) != "0a0000000000000000000000000000f0" {
		t.Error("mark, hex")
	}
	c := ver.Clone(a)
	c.Past[0].To, c.Value[0] = 1, 'x'
	if a.Past[0].To != 2 || a.Value[0] != 'v' {
		t.Error("clone is shared")
	}
}

// P4.1, P4.4: the order.
func TestOrder(t *testing.T) {
	l := []string{"00 7:9 [-] .", "6b 0:2 [-] .", "6b 0:10 [-] .", "6b 0:10 [-] 00", "6b 0:10 [-] 0000", "6b 0:10 [-] gone", "6b 0:10 [1:1] .", "6b 1:1 [-] ff", "6b00 0:1 [-] .", "6c 0:1 [-] ."}
	for i, a := range l {
		for j, b := range l {
			want := 0
			if i < j {
				want = -1
			} else if i > j {
				want = 1
			}
			if got := ver.Compare(item(t, a), item(t, b)); got != want {
				t.Error(a, "|", b, got)
			}
		}
	}
	r := rand.New(rand.NewSource(1))
	for range 20000 {
		a, b, c := random(r), random(r), random(r)
		if (ver.Compare(a, b) == 0) != ver.Same(a, b) || ver.Compare(a, b) != -ver.Compare(b, a) || ver.Compare(a, b) < 0 && ver.Compare(b, c) < 0 && ver.Compare(a, c) >= 0 {
			t.Fatal("no order", a, b, c)
		}
		if ver.Above(a, a) {
			t.Fatal("above itself", a)
		}
	}
}

// P4.2: bytes, and their errors.
func TestBytes(t *testing.T) {
	if got := ver.Bytes(item(t, "6b 0:3 [1:2] 7631")); !bytes.Equal(got, []byte{1, 'k', 0, 3, 1, 1, 2, 0, 0, 2, 'v', '1'}) {
		t.Errorf("%x", got)
	}
	if got := ver.Bytes(item(t, "6b 0:3 [-] gone")); !bytes.Equal(got, []byte{1, 'k', 0, 3, 0, 1}) {
		t.Errorf("%x", got)
	}
	big := pen.Pen{}
	big.Fixed([]byte{1, 'k', 0})
	big.Number(api.MostCount + 1)
	many := pen.Pen{}
	many.Fixed([]byte{1, 'k', 0, 3})
	many.Number(33)
	for i := range 33 {
		many.Fixed([]byte{1, byte(2*i + 1), 0})
	}
	many.Fixed([]byte{0, 0})
	for _, c := range []struct {
		b    []byte
		want api.Errno
	}{
		{nil, api.ErrEnd}, {[]byte{25}, api.ErrLong}, {[]byte{2, 'k'}, api.ErrEnd}, {[]byte{1, 'k', 8}, api.ErrLong}, {big.Bytes(), api.ErrLong},
		{[]byte{1, 'k', 0, 3, 1, 0, 0, 0, 2}, api.ErrForm}, {[]byte{1, 'k', 0, 3, 1, 8}, api.ErrLong}, {[]byte{1, 'k', 0, 3, 0, 2}, api.ErrLong},
		{append([]byte{1, 'k', 0, 3, 0, 0, 65}, make([]byte, 65)...), api.ErrLong}, {[]byte{1, 'k', 0, 3, 0, 0}, api.ErrEnd},
		{[]byte{0, 0, 3, 0, 1}, api.ErrForm}, {[]byte{1, 'k', 0, 0, 0, 1}, api.ErrForm}, {[]byte{1, 'k', 0, 3, 1, 0, 3, 0, 1}, api.ErrForm}, {many.Bytes(), api.ErrForm},
		{[]byte{1, 'k', 0, 3, 0, 1, 0}, api.ErrTrail}, {[]byte{0, 0, 3, 0, 1, 0}, api.ErrForm}, {[]byte{1, 'k', 0, 3, 0, 1}, api.OK},
	} {
		x, err := ver.Read(c.b)
		if err != c.want || err != api.OK && !ver.Same(x, api.Item{}) {
			t.Error(c.b, err, c.want, x)
		}
		e := pen.Read(c.b)
		x = ver.Get(e)
		if c.want == api.ErrTrail {
			if e.Err() != api.OK || e.Left() != 1 || x.Key != "k" {
				t.Error("get", c.b)
			}
		} else if e.Err() != c.want || c.want != api.OK && !ver.Same(x, api.Item{}) {
			t.Error("get", c.b, e.Err())
		}
	}
	if !ver.Same(ver.Get(nil), api.Item{}) {
		t.Error("nil eye")
	}
}

// P4.3: texts, and what is none.
func TestTexts(t *testing.T) {
	for _, s := range []string{"6b 0:3 [1:2] 7631", "6b 0:1 [-] .", "00ff 7:1099511627776 [0:1-3 2:1] gone"} {
		if ver.Text(item(t, s)) != s {
			t.Error(s)
		}
	}
	for _, s := range []string{"", "6b", "6b 0:3", "6b 0:3 [-]", "6b 0:3 [-] ", "6b 0:3 [] 00", "6b 0:3 - 00", " 6b 0:3 [-] 00", "6b 0:3 [-] 00 ", "6b  0:3 [-] 00",
		"6B 0:3 [-] 00", ". 0:3 [-] 00", "6b - [-] 00", "6b 0:3-4 [-] 00", "6b 0:3 1:1 [-] 00", "6b 0:3 [0:3] 00", "6b 0:0 [-] 00", "6b 0:3 [-] Gone", "6b 0:3 [-] 0", "6b 0:3 [-] [-] 00",
		strings.Repeat("6b", 25) + " 0:3 [-] 00", "6b 0:3 [-] " + strings.Repeat("00", 65), "6b 00:3 [-] 00"} {
		if x, ok := ver.Parse(s); ok || !ver.Same(x, api.Item{}) {
			t.Errorf("%q: %v", s, x)
		}
	}
}

// P4.4: what is put is got.
func TestPutAndGet(t *testing.T) {
	r := rand.New(rand.NewSource(2))
	for range 3000 {
		x := random(r)
		back, err := ver.Read(ver.Bytes(x))
		again, ok := ver.Parse(ver.Text(x))
		if err != api.OK || !ok || !ver.Same(back, x) || !ver.Same(again, x) {
			t.Fatal(x, back, again)
		}
		b := ver.Bytes(x)
		for cut := range b {
			if _, err := ver.Read(b[:cut]); err == api.OK {
				t.Fatal("cut short", x)
			}
		}
		if _, err := ver.Read(slices.Concat(b, []byte{0})); err != api.ErrTrail {
			t.Fatal("trail", x)
		}
	}
}
