package sibs_test

import (
	"math/rand"
	"slices"
	"testing"

	"gleanings/api"
	"gleanings/dot"
	"gleanings/sibs"
	"gleanings/ver"
)

func list(t *testing.T, texts ...string) []api.Item {
	var l []api.Item
	for _, s := range texts {
		x, ok := ver.Parse(s)
		if !ok {
			t.Fatal("no item:", s)
		}
		l = append(l, x)
	}
	return l
}

func texts(l []api.Item) []string {
	var all []string
	for _, x := range l {
		all = append(all, ver.Text(x))
	}
	return all
}

func clock(s string) api.Clock {
	c, _ := dot.Parse(s)
	return c
}

// mixed are lists that aren't of one key.
func mixed(t *testing.T) [][]api.Item {
	return [][]api.Item{
		list(t, "6b 0:1 [-] 76", "6c 0:2 [-] 76"),
		{{Key: "k"}},
		append(list(t, "6b 0:1 [-] 76"), api.Item{Key: "k", Dot: api.Dot{N: 2}, Past: api.Clock{{From: 2, To: 2}}}),
	}
}

// P5.1: settled lists and those that aren't.
func TestSettled(t *testing.T) {
	if !sibs.Settled(nil) || !sibs.Settled(list(t, "6b 0:1 [-] 76", "6b 1:3 [-] .", "6b 1:3 [0:2] .")) {
		t.Error("settled ones")
	}
	for _, l := range append(mixed(t),
		list(t, "6b 1:1 [-] 76", "6b 0:1 [-] 76"), list(t, "6b 0:1 [-] 76", "6b 0:1 [-] 76"),
		list(t, "6b 0:1 [-] 76", "6b 1:1 [0:1] 76"), list(t, "6b 0:2 [1:1] 76", "6b 1:1 [-] 76")) {
		if sibs.Settled(l) {
			t.Error("isn't settled:", texts(l))
		}
	}
}

// P5.1: joins, what is taken and discarded, contexts.
func TestJoinTakeDiscard(t *testing.T) {
	low, high := list(t, "6b 0:1 [-] 76"), list(t, "6b 1:1 [0:1] 77")
	beside := list(t, "6b 2:1 [-] gone")
	if got := sibs.Join(low, high); !sibs.Same(got, high) {
		t.Error(texts(got))
	}
	if got := sibs.Join(slices.Concat(beside, low), low); !sibs.Same(got, slices.Concat(low, beside)) {
		t.Error(texts(got))
	}
	both := list(t, "6b 0:2 [1:2] 76", "6b 1:2 [0:2] 77")
	if got := sibs.Join(both, nil); len(got) > 0 {
		t.Error("two above one another stand:", texts(got))
	}
	if got, fresh := sibs.Take(both[:1], both[1]); fresh || len(got) > 0 {
		t.Error("taken though it goes:", texts(got))
	}
	twins := list(t, "6b 0:1 [-] 76", "6b 0:1 [-] 77")
	if got := sibs.Join(twins, high); !sibs.Same(got, high) {
		t.Error("both of one dot:", texts(got))
	}
	if got, fresh := sibs.Take(low, high[0]); !fresh || !sibs.Same(got, high) {
		t.Error("take", texts(got), fresh)
	}
	if got, fresh := sibs.Take(high, low[0]); fresh || !sibs.Same(got, high) {
		t.Error("take of what was seen", texts(got), fresh)
	}
	if got, fresh := sibs.Take(low, low[0]); fresh || !sibs.Same(got, low) {
		t.Error("take again", texts(got), fresh)
	}
	all := list(t, "6b 2:1 [-] gone", "6b 0:1 [-] 76", "6b 1:1 [0:3-4] 77")
	if got := sibs.Discard(all, clock("0:1-9")); !sibs.Same(got, slices.Concat(all[:1], all[2:])) {
		t.Error("discard", texts(got))
	}
	if got := sibs.Discard(all, nil); !sibs.Same(got, all) {
		t.Error("discard nothing", texts(got))
	}
	if got := dot.Text(sibs.Context(all)); got != "0:1 0:3-4 1:1 2:1" || len(sibs.Context(nil)) > 0 {
		t.Error("context", got)
	}
	if len(sibs.Discard(all, api.Clock{{Node: 9}})) > 0 {
		t.Error("discard with a wrong clock")
	}
	for _, l := range mixed(t) {
		got, fresh := sibs.Take(l, low[0])
		if len(sibs.Join(l, nil))+len(sibs.Join(low, l))+len(got)+len(sibs.Discard(l, nil))+len(sibs.Context(l)) > 0 || fresh || sibs.Next(l, 0, nil) != (api.Dot{}) {
			t.Error("isn't of one key:", l)
		}
		for range sibs.Live(l) {
			t.Error("live of", l)
		}
		if !sibs.Same(l, slices.Clone(l)) {
			t.Error("same of", l)
		}
	}
	if got, fresh := sibs.Take(low, list(t, "6c 0:1 [-] 76")[0]); fresh || len(got) > 0 {
		t.Error("take of another key")
	}
	if sibs.Same(low, high) || sibs.Same(low, nil) || !sibs.Same(nil, []api.Item{}) {
		t.Error("same")
	}
}

// P5.1: what is handed in stays, and what is answered is new.
func TestApart(t *testing.T) {
	l := append(make([]api.Item, 0, 9), list(t, "6b 2:1 [0:5] 78", "6b 1:1 [-] 76")...)
	want := texts(l)
	for _, got := range [][]api.Item{sibs.Join(l, nil), sibs.Discard(l, nil)} {
		for i := range got {
			got[i].Value[0]++
			for j := range got[i].Past {
				got[i].Past[j].To = 7
			}
		}
	}
	taken, _ := sibs.Take(l, list(t, "6b 0:1 [-] 76")[0])
	taken[2].Value[0]++
	sibs.Context(l)
	if !slices.Equal(texts(l), want) || l[:3][2].Key != "" {
		t.Error("changed", texts(l))
	}
}

// P5.2: next dots and live values.
func TestNextAndLive(t *testing.T) {
	l := list(t, "6b 0:3 [1:7] 76", "6b 2:1 [-] gone", "6b 3:1 [-] .")
	for _, c := range []struct {
		node int
		past string
		want api.Dot
	}{
		{0, "-", api.Dot{Node: 0, N: 4}}, {0, "0:9", api.Dot{Node: 0, N: 10}}, {1, "1:2", api.Dot{Node: 1, N: 8}}, {7, "-", api.Dot{Node: 7, N: 1}},
		{-1, "-", api.Dot{}}, {8, "-", api.Dot{}}, {0, "0:1099511627776", api.Dot{}}, {0, "0:1099511627775", api.Dot{Node: 0, N: api.MostCount}},
	} {
		if got := sibs.Next(l, c.node, clock(c.past)); got != c.want {
			t.Error(c, got)
		}
	}
	if sibs.Next(l, 0, api.Clock{{Node: 9}}) != (api.Dot{}) || sibs.Next(nil, 4, nil) != (api.Dot{Node: 4, N: 1}) {
		t.Error("next")
	}
	seq := sibs.Live(l)
	l[0].Value[0] = 'x'
	l[2].Gone = true
	for range 2 {
		var dots []api.Dot
		var values []string
		for d, v := range seq {
			dots, values = append(dots, d), append(values, string(v))
			if len(v) > 0 {
				v[0] = 'z'
			}
		}
		if !slices.Equal(dots, []api.Dot{{Node: 0, N: 3}, {Node: 3, N: 1}}) || !slices.Equal(values, []string{"v", ""}) {
			t.Error(dots, values)
		}
	}
	for d := range seq {
		if d.Node != 0 {
			t.Error("goes on")
		}
		break
	}
}

// P5.3: joins of writes whose pasts are closed don't ask for the order; a write with the context stands alone, one without a past beside all.
func TestJoinsOfWrites(t *testing.T) {
	r := rand.New(rand.NewSource(5))
	for range 300 {
		places := make([][]api.Item, 3)
		var all []api.Item
		for range 12 {
			node := r.Intn(3)
			l := places[node]
			var past api.Clock
			if r.Intn(3) > 0 {
				past = sibs.Context(l)
			}
			x := api.Item{Key: "k", Dot: sibs.Next(l, node, past), Past: past, Value: []byte{byte(r.Intn(2))}}
			next, fresh := sibs.Take(l, x)
			if len(past) > 0 && (len(next) != 1 || !fresh) {
				t.Fatal("doesn't stand alone", texts(next))
			}
			if len(past) == 0 && len(next) != len(l)+1 {
				t.Fatal("doesn't stand beside", texts(l), texts(next))
			}
			places[node] = next
			all = append(all, x)
			if other := r.Intn(3); r.Intn(2) == 0 {
				places[other] = sibs.Join(places[other], places[node])
			}
		}
		want := sibs.Join(places[0], sibs.Join(places[1], places[2]))
		if !sibs.Settled(want) || !sibs.Same(sibs.Join(sibs.Join(places[2], places[0]), places[1]), want) || !sibs.Same(sibs.Join(want, places[1]), want) {
			t.Fatal("asks for the order")
		}
		r.Shuffle(len(all), func(i, j int) { all[i], all[j] = all[j], all[i] })
		var got []api.Item
		for _, x := range all {
			got, _ = sibs.Take(got, x)
		}
		if !sibs.Same(got, want) {
			t.Fatal("one by one", texts(got), texts(want))
		}
	}
}
