package table_test

import (
	"math/rand"
	"slices"
	"strconv"
	"testing"

	"gleanings/api"
	"gleanings/table"
)

// of makes a list that tells its number.
func of(n int) []api.Item {
	return []api.Item{{Key: "any", Dot: api.Dot{N: n}, Past: api.Clock{{To: n}}, Value: []byte(strconv.Itoa(n))}}
}

func keys(t *table.Table) []string {
	var l []string
	for k := range t.All() {
		l = append(l, k)
	}
	return l
}

// P6.1, P6.2, P6.3: against a map of lists, with clones and iterators that were made on the way.
func TestAgainstMap(t *testing.T) {
	r := rand.New(rand.NewSource(6))
	tab := table.New()
	model := map[string]int{}
	for step := range 4000 {
		key := strconv.Itoa(r.Intn(200))
		if r.Intn(20) == 0 {
			key = ""
		}
		clone, before, seq := tab.Clone(), keys(tab), tab.All()
		if r.Intn(3) == 0 {
			tab.Set(key, nil)
			delete(model, key)
		} else {
			tab.Set(key, of(step+1))
			model[key] = step + 1
		}
		if !slices.Equal(keys(clone), before) {
			t.Fatal("a clone saw it")
		}
		i := 0
		for k := range seq {
			if k != before[i] {
				t.Fatal("who goes through saw it")
			}
			i++
		}
		if step%50 == 0 {
			check(t, tab, model, r)
		}
	}
}

func check(t *testing.T, tab *table.Table, model map[string]int, r *rand.Rand) {
	var want []string
	for k := range model {
		want = append(want, k)
	}
	slices.Sort(want)
	if got := keys(tab); !slices.Equal(got, want) || tab.Len() != len(want) {
		t.Fatal(got, want)
	}
	for i, k := range want {
		at, ok := tab.At(i)
		if l := tab.Get(k); !ok || at != k || tab.Rank(k) != i || len(l) != 1 || l[0].Dot.N != model[k] {
			t.Fatal(k, at, ok, l)
		}
	}
	cut := strconv.Itoa(r.Intn(200))
	place, found := slices.BinarySearch(want, cut)
	if tab.Rank(cut) != place || (len(tab.Get(cut)) > 0) != found {
		t.Fatal("rank", cut)
	}
	var back []string
	for k, l := range tab.Back(cut) {
		if l[0].Dot.N != model[k] {
			t.Fatal("back", k)
		}
		back = append(back, k)
	}
	slices.Reverse(back)
	for k, l := range tab.From(cut) {
		if l[0].Dot.N != model[k] {
			t.Fatal("from", k)
		}
		back = append(back, k)
	}
	if !slices.Equal(back, want) {
		t.Fatal("from behind back isn't all", back, want)
	}
}

// P6.1: places that there aren't, the zero value, a nil table, empty lists.
func TestEdges(t *testing.T) {
	var zero table.Table
	zero.Set("b", of(1))
	zero.Set("a", of(2))
	if !slices.Equal(keys(&zero), []string{"a", "b"}) {
		t.Error("zero value", keys(&zero))
	}
	for _, i := range []int{-1, 2, 1 << 40} {
		if k, ok := zero.At(i); ok || k != "" {
			t.Error("at", i)
		}
	}
	zero.Set("c", []api.Item{})
	zero.Set("b", []api.Item{})
	if !slices.Equal(keys(&zero), []string{"a"}) || len(zero.Get("b")) > 0 {
		t.Error("an empty list stays")
	}
	var none *table.Table
	none.Set("a", of(1))
	if k, ok := none.At(0); ok || k != "" || none.Len() != 0 || none.Get("a") != nil || none.Rank("z") != 0 || none.Clone() != nil {
		t.Error("nil table")
	}
	for range none.All() {
		t.Error("nil has keys")
	}
	for range none.From("") {
		t.Error("nil has keys")
	}
	for range none.Back("z") {
		t.Error("nil has keys")
	}
}

// P6.1, P6.2: nothing is shared, and who goes through may leave off.
func TestApart(t *testing.T) {
	tab := table.New()
	l := of(5)
	tab.Set("k", l)
	tab.Set("l", of(6))
	l[0].Value[0], l[0].Past[0].To, l[0].Key = 'x', 9, "x"
	got := tab.Get("k")
	if string(got[0].Value) != "5" || got[0].Past[0].To != 5 || got[0].Key != "any" {
		t.Error("what was handed in is kept")
	}
	got[0].Value[0] = 'y'
	n := 0
	for _, l := range tab.All() {
		l[0].Value[0] = 'z'
		n++
		break
	}
	for _, l := range tab.Back("z") {
		l[0].Value[0] = 'z'
		n++
		break
	}
	if n != 2 || string(tab.Get("k")[0].Value) != "5" || string(tab.Get("l")[0].Value) != "6" {
		t.Error("what was answered is shared")
	}
}
