package duet_test

import (
	"bytes"
	"math"
	"math/rand"
	"slices"
	"strconv"
	"testing"

	"gleanings/api"
	"gleanings/duet"
	"gleanings/marks"
	"gleanings/pin"
	"gleanings/store"
	"gleanings/timer"
)

var plan = api.Plan{Every: 3, Tries: 2, Rounds: 2, Idle: 40}

func fresh(t *testing.T, node, most int) *store.Store {
	s, err := store.New(node, most)
	if err != api.OK {
		t.Fatal(err)
	}
	return s
}

func fill(s *store.Store, from, to int) {
	for i := from; i < to; i++ {
		s.Put("k"+strconv.Itoa(i), nil, []byte{byte(i)})
	}
}

func begun(t *testing.T, a, b *store.Store, p api.Plan) *duet.Duet {
	d, err := duet.New(a, b, 9, p)
	if err != api.OK {
		t.Fatal(err)
	}
	return d
}

// two stores that share some items, and have others.
func two(t *testing.T, r *rand.Rand, most int) (*store.Store, *store.Store) {
	a, b := fresh(t, 0, 256), fresh(t, 1, 256)
	fill(a, 0, r.Intn(most))
	for x := range a.Items() {
		b.Take(x)
	}
	fill(a, 100, 100+r.Intn(most))
	fill(b, 80, 80+r.Intn(most))
	for x := range b.Items() {
		if r.Intn(9) == 0 {
			_, c, _ := b.Get(x.Key)
			b.Delete(x.Key, c)
		}
	}
	return a, b
}

func is(t *testing.T, d *duet.Duet, there, back int) {
	t.Helper()
	if x, y := d.Ways(); x != there || y != back {
		t.Error("ways", x, y, "not", there, back)
	}
}

// P27.1: what New refuses; two empty stores.
func TestNew(t *testing.T) {
	a, b := fresh(t, 0, 9), fresh(t, 1, 9)
	for i, c := range []struct {
		a, b *store.Store
		sid  int
		p    api.Plan
		want api.Errno
	}{{nil, b, 0, plan, api.ErrNil}, {a, nil, 9, plan, api.ErrNil}, {nil, nil, 9, plan, api.ErrNil}, {a, a, 9, plan, api.ErrArg}, {a, b, 0, plan, api.ErrArg}, {a, b, 9, api.Plan{}, api.ErrArg}} {
		if d, err := duet.New(c.a, c.b, c.sid, c.p); d != nil || err != c.want {
			t.Error(i, err)
		}
	}
	d := begun(t, a, b, plan)
	is(t, d, 1, 0)
	if d.Follow() != nil || d.Lead().State() != api.Runs || d.Now() != 0 || d.Ended() || d.Lead().Sid() != 9 {
		t.Error("new")
	}
	if n := d.Run(9); n != 2 || !d.Ended() || d.Lead().State() != api.Well || d.Follow().State() != api.Well || d.Now() != 0 || d.Run(9) != 0 {
		t.Error("two empty stores", n)
	}
	if !d.Both(a, b) || !d.Both(nil, a) {
		t.Error("both")
	}
	fill(a, 0, 1)
	if d.Both(a, b) || d.Both(nil, a) || !d.Both(nil, nil) {
		t.Error("both")
	}
}

// P27.1: each fate.
func TestFates(t *testing.T) {
	a, b := fresh(t, 0, 9), fresh(t, 1, 9)
	fill(a, 0, 2)
	d := begun(t, a, b, plan)
	step := func(kind, n int, x byte, want bool, there, back int) {
		t.Helper()
		if got := d.Step(api.Fate{Kind: kind, N: n, X: x}); got != want {
			t.Error("fate", kind, got)
		}
		is(t, d, there, back)
	}
	for _, kind := range []int{api.FateFrom, api.LoseFrom, api.DoubleFrom, api.TurnFrom, -1, 9} {
		step(kind, 0, 1, false, 1, 0)
	}
	step(api.DoubleTo, 0, 0, true, 2, 0)
	step(api.TurnTo, 5, 1, true, 2, 0)
	step(api.FateTo, 0, 0, true, 1, 0) // the first ones are no message any more
	if d.Follow() != nil {
		t.Error("a follow of turned bytes")
	}
	step(api.LoseTo, 0, 0, true, 0, 0)
	for _, kind := range []int{api.FateTo, api.LoseTo, api.DoubleTo, api.TurnTo} {
		step(kind, 0, 1, false, 0, 0)
	}
	step(api.FateTick, 2, 0, true, 0, 0)
	step(api.FateTick, -5, 0, true, 0, 0)
	step(api.FateTick, 1, 0, true, 1, 0) // the Hello is said again
	if d.Now() != 3 {
		t.Error(d.Now())
	}
	step(api.TurnTo, 5, 1, true, 1, 0)
	step(api.TurnTo, 5, 1, true, 1, 0) // and turned back
	step(api.DoubleTo, 0, 0, true, 2, 0)
	step(api.FateTo, 0, 0, true, 1, 1)
	first := d.Follow()
	step(api.FateTo, 0, 0, true, 0, 2)
	if first == nil || d.Follow() != first {
		t.Error("another follow")
	}
	step(api.DoubleFrom, 0, 0, true, 0, 3)
	step(api.TurnFrom, 0, 1, true, 0, 3)
	step(api.FateFrom, 0, 0, true, 0, 2)
	step(api.LoseFrom, 0, 0, true, 0, 1)
	step(api.FateFrom, 0, 0, true, 1, 0)
	step(api.FateTick, 5000, 0, true, 2, 0)
	if d.Now() != 1003 || d.Follow().State() != api.Over || d.Follow().Why() != 26 {
		t.Error(d.Now(), d.Follow().State())
	}
	for n := 2; n < 64; n++ {
		step(api.DoubleTo, 0, 0, true, n+1, 0)
	}
	d.Step(api.Fate{Kind: api.DoubleTo})
	is(t, d, 64, 0)
	step(api.FateTick, 1000, 0, true, 64, 0) // what is said is lost
	if d.Lead().Ledger().Row(api.Count).Frames != 3 {
		t.Error(d.Lead().Ledger().Text())
	}
}

// P27.1: rounds, one by one: a tick of 1, where there is nothing on the ways.
func TestRounds(t *testing.T) {
	a, b := fresh(t, 0, 9), fresh(t, 1, 9)
	fill(a, 0, 2)
	d := begun(t, a, b, plan)
	d.Step(api.Fate{Kind: api.LoseTo})
	for now := 1; now < 4; now++ {
		if n := d.Run(1); n != 1 || d.Now() != now {
			t.Error(n, d.Now())
		}
	}
	is(t, d, 1, 0)
	for _, n := range []int{0, -1, math.MinInt} {
		if d.Run(n) != 0 || d.Now() != 3 {
			t.Error(n)
		}
	}
	if d.Run(1); d.Follow() == nil || d.Lead().Ledger().Row(api.Count).Frames != 1 {
		t.Error("a round there and back")
	}
	// A lead that ends without a follow.
	e := begun(t, fresh(t, 0, 9), fresh(t, 1, 9), plan)
	e.Step(api.Fate{Kind: api.LoseTo})
	for range 3 {
		if e.Ended() {
			t.Error("ended too early")
		}
		e.Step(api.Fate{Kind: api.FateTick, N: 100})
		e.Step(api.Fate{Kind: api.LoseTo})
	}
	if !e.Ended() || e.Follow() != nil || e.Lead().Why() != 26 || e.Run(5) != 0 {
		t.Error("hasn't ended", e.Lead().State())
	}
}

// P27.2: the same fates make the same.
func TestSameFates(t *testing.T) {
	r := rand.New(rand.NewSource(35))
	for range 20 {
		a, b := two(t, r, 30)
		c, e := a.Clone(), b.Clone()
		d, f := begun(t, a, b, plan), begun(t, c, e, plan)
		for range 200 {
			fate := api.Fate{Kind: r.Intn(9), N: r.Intn(40), X: byte(r.Intn(4))}
			if d.Step(fate) != f.Step(fate) || d.Lead().State() != f.Lead().State() || d.Now() != f.Now() {
				t.Fatal("unlike")
			}
		}
		if !bytes.Equal(a.Bytes(), c.Bytes()) || !bytes.Equal(b.Bytes(), e.Bytes()) || d.Lead().Ledger().Text() != f.Lead().Ledger().Text() {
			t.Fatal("unlike ends")
		}
	}
}

// P27.3: without faults both are Well, and each took just what the other one's pin had more.
func TestWithoutFaults(t *testing.T) {
	r := rand.New(rand.NewSource(36))
	for round := range 60 {
		a, b := two(t, r, 80)
		p := plan
		p.Rounds = round % 5
		own, theirs := pin.Of(a), pin.Of(b)
		d := begun(t, a, b, p)
		d.Run(math.MaxInt)
		if d.Lead().State() != api.Well || d.Follow().State() != api.Well || d.Now() != 0 {
			t.Fatal(d.Lead().State(), d.Lead().Why(), d.Follow().State())
		}
		plus, minus := marks.Minus(own.Marks(), theirs.Marks()), marks.Minus(theirs.Marks(), own.Marks())
		if !marks.Same(marks.Of(d.Lead().Taken()...), minus) || len(d.Lead().Taken()) != len(minus) || !slices.Equal(d.Follow().Taken(), plus) || !marks.Same(d.Follow().Fetched(), minus) {
			t.Fatal("took", len(plus), len(minus))
		}
		if !d.Both(a, b) {
			t.Fatal("not the same")
		}
	}
}

// P27.3: whatever the fates were, it ends within the waits of all requests; who leads a session that is Well is answered by one that is.
func TestAnyFates(t *testing.T) {
	r := rand.New(rand.NewSource(37))
	wells := 0
	for round := range 150 {
		a, b := two(t, r, 25)
		p := plan
		p.Rounds = round % 3
		own, theirs := pin.Of(a), pin.Of(b)
		d := begun(t, a, b, p)
		for range r.Intn(300) {
			kind := r.Intn(2)
			if r.Intn(5) == 0 {
				kind = r.Intn(9)
			}
			d.Step(api.Fate{Kind: kind, N: r.Intn(60), X: byte(r.Intn(3))})
		}
		requests := 2 + 8 + 32*p.Rounds + 2*theirs.Len() + own.Len()
		longest := requests*timer.Longest(p.Every, p.Tries) + p.Idle
		if d.Run(2*longest + 200); !d.Ended() {
			t.Fatal("didn't end")
		}
		if d.Lead().State() == api.Well {
			wells++
			if d.Follow().State() != api.Well || !marks.Same(marks.Of(d.Lead().Taken()...), marks.Minus(theirs.Marks(), own.Marks())) || !marks.Same(marks.Of(d.Follow().Taken()...), marks.Minus(own.Marks(), theirs.Marks())) {
				t.Fatal("Well, but the other one isn't, or took something else")
			}
		}
	}
	if wells < 20 || wells == 150 {
		t.Error("wells", wells)
	}
}

// P27.1: a nil duet.
func TestNil(t *testing.T) {
	var d *duet.Duet
	x, y := d.Ways()
	if d.Step(api.Fate{Kind: api.FateTick}) || d.Run(9) != 0 || !d.Ended() || d.Lead() != nil || d.Follow() != nil || d.Now() != 0 || x+y != 0 || d.Both(nil, nil) {
		t.Error("nil")
	}
}
