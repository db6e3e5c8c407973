package mst_test

import (
	"math/rand"
	"slices"
	"testing"

	"gleanings/api"
	"gleanings/marks"
	"gleanings/mst"
	"gleanings/pen"
	"gleanings/sip"
)

// mark with a tier of about so many, at a place of the order.
func mark(place byte, zeros int) api.Mark {
	m := api.Mark{0: place, 15: place}
	if zeros < 64 {
		m[8+zeros/8] |= 128 >> (zeros % 8)
	}
	return m
}

func some(r *rand.Rand, n int) []api.Mark {
	l := make([]api.Mark, n)
	for i := range l {
		r.Read(l[i][:])
		if z := r.Intn(5); z > 0 {
			l[i][8] >>= z
		}
	}
	return l
}

// plain hash of a tree, as the chapter tells it, with its pages behind one another.
func plain(set []api.Mark, pages *[]api.Page) api.Mark {
	if len(set) == 0 {
		return api.Mark{}
	}
	p := api.Page{}
	for _, m := range set {
		p.Tier = max(p.Tier, mst.Tier(m))
	}
	place := len(*pages)
	*pages = append(*pages, p)
	var between []api.Mark
	for _, m := range set {
		if mst.Tier(m) < p.Tier {
			between = append(between, m)
			continue
		}
		p.Marks = append(p.Marks, m)
		p.Kids = append(p.Kids, plain(between, pages))
		between = nil
	}
	p.Kids = append(p.Kids, plain(between, pages))
	(*pages)[place] = p
	return mst.Hash(p)
}

func same(a, b api.Page) bool {
	return a.Tier == b.Tier && slices.Equal(a.Marks, b.Marks) && slices.Equal(a.Kids, b.Kids)
}

// check a tree against the set of its marks.
func check(t *testing.T, tree *mst.Tree, set []api.Mark) {
	t.Helper()
	var pages []api.Page
	root := plain(set, &pages)
	if tree.Root() != root || tree.Len() != len(set) || !marks.Same(slices.Collect(tree.All()), set) {
		t.Fatal("root, len or all", tree.Len(), len(set))
	}
	i := 0
	for hash, p := range tree.Pages() {
		if i >= len(pages) || !same(p, pages[i]) || hash != mst.Hash(p) {
			t.Fatal("page", i)
		}
		i++
	}
	if i != len(pages) || i > len(set) {
		t.Fatal("pages", i, len(pages))
	}
}

// P16.1: tiers.
func TestTier(t *testing.T) {
	for _, c := range []struct {
		m    api.Mark
		want int
	}{
		{api.Mark{8: 1}, 3}, {api.Mark{8: 0x80}, 0}, {api.Mark{8: 0x40}, 0}, {api.Mark{8: 0x20}, 1}, {api.Mark{0: 0xff, 9: 0xff}, 4}, {api.Mark{15: 1}, 31}, {api.Mark{0: 0x80}, 32},
		{api.Mark{0: 1}, 35}, {api.Mark{7: 1}, 63}, {api.Mark{7: 2}, 63}, {api.Mark{7: 4}, 62}, {api.Mark{}, 64},
	} {
		if got := mst.Tier(c.m); got != c.want {
			t.Error(c.m, got, c.want)
		}
	}
}

// P16.1: hashes of any pages.
func TestHash(t *testing.T) {
	for _, p := range []api.Page{{}, {Tier: -1, Marks: []api.Mark{{2}, {1}}}, {Tier: 300, Kids: []api.Mark{{3}}}, {Tier: 1, Marks: []api.Mark{{1}}, Kids: []api.Mark{{2}, {3}}}} {
		var w pen.Pen
		w.Number(uint64(p.Tier))
		w.Number(uint64(len(p.Marks)))
		for _, m := range slices.Concat(p.Marks, p.Kids) {
			w.Fixed(m[:])
		}
		first, second := sip.Hash(sip.Seed(6), w.Bytes()), sip.Hash(sip.Seed(7), w.Bytes())
		got := mst.Hash(p)
		for i := range 8 {
			if got[i] != byte(first>>(56-8*i)) || got[8+i] != byte(second>>(56-8*i)) {
				t.Error(p, i)
			}
		}
	}
}

// P16.1, P16.3: trees of sets, however they came.
func TestTrees(t *testing.T) {
	r := rand.New(rand.NewSource(23))
	for round := range 60 {
		l := some(r, r.Intn(1+3*round))
		if round%4 == 0 && len(l) > 0 {
			l = append(l, api.Mark{}, mark(7, 64), l[0])
		}
		set := marks.Of(l...)
		tree := mst.Of(l...)
		check(t, tree, set)
		check(t, mst.Of(set...), set)
		grown := mst.Of()
		for _, m := range l {
			grown = grown.Insert(m)
		}
		check(t, grown, set)
		for _, m := range some(r, 5) {
			if tree.Has(m) != marks.Has(set, m) {
				t.Fatal("has")
			}
			check(t, tree.Insert(m), marks.Union(set, []api.Mark{m}))
			if tree.Remove(m).Root() != tree.Root() || tree.Insert(m).Remove(m).Root() != tree.Root() {
				t.Fatal("inserted and removed again")
			}
			check(t, tree, set)
		}
		for i := range min(8, len(set)) {
			m := set[r.Intn(len(set))]
			if !tree.Has(m) || tree.Insert(m).Root() != tree.Root() {
				t.Fatal("has", i)
			}
			tree = tree.Remove(m)
			set = marks.Minus(set, []api.Mark{m})
			check(t, tree, set)
		}
	}
}

// P16.1: marks of all tiers, one above the other.
func TestTiers(t *testing.T) {
	tree := mst.Of()
	var l []api.Mark
	for z := range 65 {
		m := mark(byte(37*z), z)
		l = append(l, m)
		tree = tree.Insert(m)
		check(t, tree, marks.Of(l...))
	}
	for _, m := range l[:40] {
		tree = tree.Remove(m)
	}
	check(t, tree, marks.Of(l[40:]...))
}

// P16.2: pages and marks of a hash.
func TestPages(t *testing.T) {
	r := rand.New(rand.NewSource(24))
	tree := mst.Of(some(r, 120)...)
	for hash, p := range tree.Pages() {
		got, ok := tree.Page(hash)
		if !ok || !same(got, p) {
			t.Fatal("page")
		}
		var under []api.Mark
		for i, kid := range p.Kids {
			under = append(under, tree.Under(kid)...)
			if i < len(p.Marks) {
				under = append(under, p.Marks[i])
			}
		}
		if l := tree.Under(hash); !marks.Same(l, under) || !marks.Right(l) {
			t.Fatal("under")
		}
	}
	for _, hash := range []api.Mark{{}, {1}} {
		if p, ok := tree.Page(hash); ok || !same(p, api.Page{}) || len(tree.Under(hash)) > 0 {
			t.Error(hash)
		}
	}
	if !marks.Same(tree.Under(tree.Root()), slices.Collect(tree.All())) {
		t.Error("under the root")
	}
}

// P16.1, P16.2: nothing is shared; who goes through may leave off.
func TestApart(t *testing.T) {
	r := rand.New(rand.NewSource(25))
	l := some(r, 60)
	tree := mst.Of(l...)
	set := marks.Of(l...)
	clear(l)
	n := 0
	for _, p := range tree.Pages() {
		p.Marks[0], p.Kids[0] = api.Mark{}, api.Mark{1}
		_ = append(p.Marks, api.Mark{2})
		if n++; n == 3 {
			break
		}
	}
	for m := range tree.All() {
		if n++; m != set[0] {
			t.Error(m)
		}
		break
	}
	tree.Under(tree.Root())[0] = api.Mark{}
	p, _ := tree.Page(tree.Root())
	p.Marks[0] = api.Mark{}
	if n != 4 {
		t.Error("left off at", n)
	}
	check(t, tree, set)
}

// P16.1, P16.2: a nil tree is the tree of no marks.
func TestNil(t *testing.T) {
	var none *mst.Tree
	if _, ok := none.Page(api.Mark{}); ok || none.Len() != 0 || none.Root() != (api.Mark{}) || none.Has(api.Mark{}) || len(none.Under(api.Mark{})) > 0 {
		t.Error("nil")
	}
	check(t, none, nil)
	check(t, none.Remove(api.Mark{1}), nil)
	check(t, none.Insert(api.Mark{1}), []api.Mark{{1}})
}
