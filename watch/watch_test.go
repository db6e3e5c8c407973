package watch_test

import (
	"math"
	"math/rand"
	"slices"
	"testing"

	"gleanings/api"
	"gleanings/realm"
	"gleanings/sibs"
	"gleanings/watch"
)

var plan = api.Plan{Every: 3, Tries: 1, Rounds: 1, Idle: 20}

func fresh(t *testing.T, n, most int) *realm.Realm {
	r, err := realm.New(n, most, plan)
	if err != api.OK {
		t.Fatal(err)
	}
	return r
}

func put(a int, key, value string) api.Event {
	return api.Event{Kind: api.EvPut, A: a, Key: key, Value: []byte(value)}
}

func apart(r *realm.Realm, i int) []string {
	var l []string
	for key := range watch.Apart(r, i) {
		l = append(l, key)
	}
	return l
}

// P33.1: what a node has that isn't in the book, and that came but isn't there.
func TestHolds(t *testing.T) {
	r := fresh(t, 2, 9)
	r.Run(put(0, "k", "v"), put(0, "j", "v"), put(1, "k", "w"))
	for i := range 2 {
		if !watch.Holds(r, i) || len(apart(r, i)) > 0 {
			t.Error(i, "doesn't hold")
		}
	}
	for _, i := range []int{-1, 2, math.MaxInt} {
		if watch.Holds(r, i) || watch.Alike(r, i) || len(apart(r, i)) > 0 {
			t.Error(i, "isn't there")
		}
	}
	// What the book hasn't noted yet, and what it notes that the store hasn't.
	r.Node(0).Store().Put("z", nil, []byte("x"))
	r.Book().Note(0, api.Item{Key: "a", Dot: api.Dot{Node: 3, N: 1}, Value: []byte("a")})
	if watch.Holds(r, 0) || !watch.Holds(r, 1) {
		t.Error("holds")
	}
	seq := watch.Apart(r, 0)
	r.Book().Note(0, api.Item{Key: "b", Dot: api.Dot{Node: 3, N: 1}})
	for range 2 {
		var l []string
		for key, live := range seq {
			if l = append(l, key); key == "a" && (len(live) != 1 || string(live[0].Value) != "a") || key == "z" && len(live) > 0 {
				t.Error(key, live)
			}
			for _, x := range live {
				x.Value[0] = 'x'
			}
		}
		if !slices.Equal(l, []string{"a", "z"}) {
			t.Error(l)
		}
	}
	for key := range seq {
		if key != "a" {
			t.Error("goes on")
		}
		break
	}
	if l := apart(r, 0); !slices.Equal(l, []string{"a", "b", "z"}) {
		t.Error(l)
	}
}

// P33.1: who has just what stands.
func TestAlike(t *testing.T) {
	r := fresh(t, 3, 9)
	if !watch.Alike(r, 0) || !watch.Alike(r, 2) {
		t.Error("of nothing")
	}
	r.Run(put(0, "k", "v"))
	if !watch.Alike(r, 0) || watch.Alike(r, 1) {
		t.Error("one has it")
	}
	r.Run(put(1, "k", "w"))
	if watch.Alike(r, 0) || watch.Alike(r, 1) {
		t.Error("two have each their own")
	}
	r.Settle(1)
	for i := range 3 {
		if !watch.Alike(r, i) || !watch.Holds(r, i) {
			t.Error(i)
		}
	}
}

// P33.2: verdicts.
func TestVerdict(t *testing.T) {
	r := fresh(t, 2, 9)
	if got := watch.Text(watch.Verdict(r)); got != "2 0 0 0 0 0 0 0 2" {
		t.Error(got)
	}
	r.Run(put(0, "k", "v"), put(0, "k", "w"), put(1, "l", "w"))
	r.Settle(1)
	want := api.Verdict{Held: 2, Led: 2, Well: 2, Paired: 2, Took: 3, Said: r.Said(), Stands: 3, Alike: 2}
	if got := watch.Verdict(r); got != want {
		t.Error(got, want)
	}
	// A lead that ends, and a follow that is put away.
	r.Run(api.Event{Kind: api.EvSync, A: 0, B: 1}, api.Event{Kind: api.EvDeliver}, api.Event{Kind: api.EvTick, N: 100}, api.Event{Kind: api.EvTick, N: 100})
	want.Led, want.Over, want.Said = 3, 2, r.Said()
	if got := watch.Verdict(r); got != want {
		t.Error(got, want)
	}
	if got := watch.Text(api.Verdict{Held: -1, Led: 1, Well: -5, Paired: 3, Over: math.MinInt, Took: 5, Said: math.MaxUint64, Stands: -7, Alike: 8}); got != "0 1 0 3 0 5 18446744073709551615 0 8" {
		t.Error(got)
	}
	if got := watch.Verdict(nil); got != (api.Verdict{}) || watch.Holds(nil, 0) || watch.Alike(nil, 0) || len(apart(nil, 0)) > 0 {
		t.Error("nil", got)
	}
}

// random event.
func random(r *rand.Rand) api.Event {
	e := api.Event{Kind: r.Intn(11), A: r.Intn(4), B: r.Intn(9), N: r.Intn(40), Key: string(rune('a' + r.Intn(4))), Value: []byte{byte(r.Intn(5))}, X: byte(r.Intn(3))}
	if r.Intn(20) > 0 {
		e.Kind = []int{api.EvDeliver, api.EvDeliver, api.EvDeliver, api.EvDeliver, api.EvDeliver, api.EvDeliver, api.EvNext, api.EvPut, api.EvDelete, api.EvGet}[r.Intn(10)]
	}
	if e.Kind == api.EvTick {
		e.N %= 3
	}
	return e
}

// P33.3: whatever happens, each node holds, and each session that is Well at its lead is paired; settled they are alike.
func TestWhateverHappens(t *testing.T) {
	rnd := rand.New(rand.NewSource(42))
	wells := 0
	for range 25 {
		r := fresh(t, 2+rnd.Intn(3), 4)
		for step := range 500 {
			r.Step(random(rnd))
			if step%20 == 0 {
				for i := range r.Nodes() {
					if !watch.Holds(r, i) {
						t.Fatal("doesn't hold", apart(r, i))
					}
				}
			}
		}
		r.Quiet()
		v := watch.Verdict(r)
		if v.Held != r.Nodes() || v.Paired != v.Well || v.Well > v.Led || r.Met() || v.Said != r.Said() {
			t.Fatal(watch.Text(v))
		}
		wells += v.Well
		settled := r.Settle(1)
		if got := watch.Verdict(r); settled && (got.Alike != r.Nodes() || !r.Same() || got.Stands != r.Node(0).Store().Count()) {
			t.Fatal(watch.Text(got))
		}
		var live []api.Item
		for x := range r.Node(0).Store().Items() {
			live = append(live, x)
		}
		if settled && !sibs.Same(live, r.Book().Stands()) {
			t.Fatal("what stands")
		}
	}
	if wells < 50 {
		t.Error("too few were Well:", wells)
	}
}
