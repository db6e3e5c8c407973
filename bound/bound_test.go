package bound_test

import (
	"math"
	"math/rand"
	"strconv"
	"testing"

	"gleanings/api"
	"gleanings/bound"
	"gleanings/duet"
	"gleanings/frame"
	"gleanings/marks"
	"gleanings/msg"
	"gleanings/pin"
	"gleanings/store"
	"gleanings/timer"
	"gleanings/ver"
)

// P34.1: the numbers, as told.
func TestNumbers(t *testing.T) {
	none := api.Plan{Every: 5, Tries: 4, Rounds: 0, Idle: 9}
	two := api.Plan{Every: 5, Tries: 4, Rounds: 2, Idle: 9}
	if bound.Requests(none, 0, 0) != 2 || bound.Requests(none, 3, 7) != 2+14+3 || bound.Requests(two, 3, 7) != 2+8+64+14+3 || bound.Requests(two, 4096, 4096) != 74+3*4096 {
		t.Error("requests")
	}
	if bound.Frames(none, 0, 0) != 11 || bound.Frames(two, 3, 7) != 91*5+1 {
		t.Error("frames")
	}
	if bound.Ticks(none, 0, 0) != 2*115 || bound.Ticks(two, 3, 7) != 91*115 {
		t.Error("ticks")
	}
	c := frame.Cost
	want := 4*c(60) + 8*(c(60)+c(352)) + 64*(c(60)+c(1360)) + 7*(c(60)+c(1960)) + 7*(c(1620)+c(16)) + 3*(c(16)+c(60))
	if got := bound.Overhead(two, 3, 7); got != want {
		t.Error(got, want)
	}
	if got := bound.Overhead(none, 0, 0); got != 4*c(60) {
		t.Error(got)
	}
	for i, x := range []struct {
		p           api.Plan
		own, theirs int
	}{{api.Plan{}, 0, 0}, {two, -1, 0}, {two, 0, -1}, {two, 4097, 0}, {two, 0, 4097}, {two, math.MaxInt, 0}, {api.Plan{Every: 1, Rounds: 5, Idle: 1}, 0, 0}} {
		if bound.Requests(x.p, x.own, x.theirs)+bound.Frames(x.p, x.own, x.theirs)+bound.Ticks(x.p, x.own, x.theirs)+bound.Overhead(x.p, x.own, x.theirs) != 0 {
			t.Error(i)
		}
	}
	a, _ := ver.Parse("6b 0:1 [-] 76")
	if bound.Payload([]api.Item{a, {}, a}) != 2*len(ver.Bytes(a)) || bound.Payload(nil) != 0 {
		t.Error("payload")
	}
	for size, want := range map[int]int{3: 6, 1536: 3072, 4: 0, 0: 0, -3: 0, 1539: 0} {
		if bound.Steps(size) != want {
			t.Error(size)
		}
	}
}

func fill(s *store.Store, from, to int) {
	for i := from; i < to; i++ {
		s.Put("k"+strconv.Itoa(i), nil, []byte{byte(i)})
	}
}

// two stores that share some items, and have others.
func two(r *rand.Rand, most int) (*store.Store, *store.Store) {
	a, _ := store.New(0, 256)
	b, _ := store.New(1, 256)
	fill(a, 0, r.Intn(most))
	for x := range a.Items() {
		b.Take(x)
	}
	fill(a, 100, 100+r.Intn(most))
	fill(b, 80, 80+r.Intn(most))
	return a, b
}

// P34.2: whatever the fates, but for turned bytes.
func TestAnyFates(t *testing.T) {
	r := rand.New(rand.NewSource(43))
	for round := range 150 {
		a, b := two(r, 30)
		p := api.Plan{Every: 1 + r.Intn(4), Tries: r.Intn(4), Rounds: round % 4, Idle: 1 + r.Intn(99)}
		own, theirs := pin.Of(a).Len(), pin.Of(b).Len()
		d, err := duet.New(a, b, 3, p)
		if err != api.OK {
			t.Fatal(err)
		}
		for range r.Intn(200) {
			kind := r.Intn(2)
			if r.Intn(3) == 0 {
				kind = []int{api.LoseTo, api.LoseFrom, api.DoubleTo, api.DoubleFrom, api.FateTick}[r.Intn(5)]
			}
			d.Step(api.Fate{Kind: kind, N: r.Intn(9)})
		}
		before := d.Now()
		for !(d.Lead().State() == api.Well || d.Lead().State() == api.Over) {
			if d.Run(1) == 0 || d.Now()-before > bound.Ticks(p, own, theirs) {
				t.Fatal("lasts too long")
			}
		}
		used, pages := d.Lead().Used()
		if d.Lead().Ledger().Total().Frames > uint64(bound.Frames(p, own, theirs)) || used > p.Rounds || pages > theirs {
			t.Fatal("frames", d.Lead().Ledger().Text(), used, pages)
		}
		if bound.Ticks(p, own, theirs) != bound.Requests(p, own, theirs)*timer.Longest(p.Every, p.Tries) {
			t.Fatal("ticks")
		}
	}
}

// P34.3: over a line that nothing befalls.
func TestOverhead(t *testing.T) {
	r := rand.New(rand.NewSource(44))
	for round := range 80 {
		a, b := two(r, 70)
		p := api.Plan{Every: 9, Tries: 2, Rounds: round % 5, Idle: 99}
		own, theirs := pin.Of(a), pin.Of(b)
		var more []api.Item
		for _, x := range own.Items(marks.Minus(own.Marks(), theirs.Marks())) {
			more = append(more, x)
		}
		for _, x := range theirs.Items(marks.Minus(theirs.Marks(), own.Marks())) {
			more = append(more, x)
		}
		d, _ := duet.New(a, b, 1<<40, p)
		for !d.Ended() {
			d.Run(1)
		}
		said := d.Lead().Ledger()
		said.Add(d.Follow().Ledger())
		items := bound.Payload(more)
		if d.Lead().State() != api.Well || said.Total().Bytes-uint64(items) > uint64(bound.Overhead(p, own.Len(), theirs.Len())) {
			t.Fatal("overhead", said.Total().Bytes, items, bound.Overhead(p, own.Len(), theirs.Len()))
		}
		if rest := said.Payload() - uint64(items); rest > 16*2*said.Row(api.Give).Frames+16*2*said.Row(api.Push).Frames {
			t.Fatal("payload", rest)
		}
	}
}

// P34.1: the costs are enough for the greatest messages.
func TestCosts(t *testing.T) {
	sid := 1 << 40
	if n := len(msg.Put(api.Msg{Kind: api.Hello, Sid: sid, N: 4096})); n > frame.Cost(60) {
		t.Error(n)
	}
	var l []api.Mark
	for i := range 100 {
		l = append(l, api.Mark{byte(i)})
	}
	if n := len(msg.Put(api.Msg{Kind: api.Fetch, Sid: sid, Marks: l})); n == 0 || n > frame.Cost(1620) {
		t.Error(n)
	}
}
