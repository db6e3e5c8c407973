package walk_test

import (
	"math/rand"
	"slices"
	"testing"

	"gleanings/api"
	"gleanings/marks"
	"gleanings/mst"
	"gleanings/page"
	"gleanings/walk"
)

func some(r *rand.Rand, n int) []api.Mark {
	l := make([]api.Mark, n)
	for i := range l {
		r.Read(l[i][:])
	}
	return marks.Of(l...)
}

// leaf makes a page of tier 0, with kids.
func leaf(place byte, kids ...api.Mark) api.Page {
	p := api.Page{Kids: kids}
	for i := range len(kids) - 1 {
		p.Marks = append(p.Marks, api.Mark{0: place, 1: byte(i), 8: 0x80})
	}
	return p
}

// P18.1, P18.2, P18.3: walks through trees find their marks, with no page twice, and none of the own ones.
func TestWalks(t *testing.T) {
	r := rand.New(rand.NewSource(27))
	for round := range 80 {
		both, more, own := some(r, r.Intn(1+10*round)), some(r, r.Intn(30)), some(r, r.Intn(30))
		other := mst.Of(append(more, both...)...)
		mine := mst.Of(append(own, both...)...)
		w := walk.New(mine, other.Root())
		var asked []api.Mark
		pages := 0
		for range other.Pages() {
			pages++
		}
		for !w.Done() {
			hash, ok := w.Want()
			p, has := other.Page(hash)
			if _, mineHas := mine.Page(hash); !ok || !has || mineHas || slices.Contains(asked, hash) {
				t.Fatal("wants", hash, ok, has, mineHas)
			}
			if l, err := w.Found(); l != nil || err != api.ErrTurn {
				t.Fatal("found too early", err)
			}
			asked = append(asked, hash)
			if !slices.Equal(slices.Collect(w.Asked()), asked) {
				t.Fatal("asked")
			}
			if err := w.Give(p); err != api.OK || w.Given() != len(asked) {
				t.Fatal("give", err)
			}
		}
		l, err := w.Found()
		if err != api.OK || !marks.Same(l, slices.Collect(other.All())) || w.Given() > pages {
			t.Fatal("found", err)
		}
		if hash, ok := w.Want(); ok || hash != (api.Mark{}) || w.Give(leaf(1, api.Mark{}, api.Mark{})) != api.ErrTurn {
			t.Fatal("done")
		}
	}
}

// P18.1: trees that are the same, or of no marks, are done at once.
func TestAtOnce(t *testing.T) {
	r := rand.New(rand.NewSource(28))
	l := some(r, 50)
	tree := mst.Of(l...)
	for _, w := range []*walk.Walk{walk.New(tree, tree.Root()), walk.New(tree, api.Mark{}), walk.New(nil, api.Mark{})} {
		if !w.Done() || w.Given() != 0 || len(slices.Collect(w.Asked())) > 0 {
			t.Error("isn't done")
		}
	}
	if got, err := walk.New(tree, tree.Root()).Found(); err != api.OK || !marks.Same(got, l) {
		t.Error(err)
	}
	if got, err := walk.New(nil, api.Mark{}).Found(); err != api.OK || len(got) > 0 {
		t.Error(err)
	}
	var none *walk.Walk
	if hash, ok := none.Want(); ok || hash != (api.Mark{}) || none.Give(api.Page{}) != api.ErrNil || !none.Done() || none.Given() != 0 {
		t.Error("nil")
	}
	if got, err := none.Found(); got != nil || err != api.ErrNil {
		t.Error("nil", err)
	}
	for range none.Asked() {
		t.Error("nil asked")
	}
}

// P18.1: the order of the stack: the first kid on top, no hash twice, no noughts.
func TestStack(t *testing.T) {
	c := leaf(9, api.Mark{}, api.Mark{})
	b := leaf(5, api.Mark{}, mst.Hash(c))
	a := leaf(1, api.Mark{}, mst.Hash(c), mst.Hash(b), mst.Hash(c))
	w := walk.New(nil, mst.Hash(a))
	seq := w.Asked()
	for i, p := range []api.Page{a, c, b} {
		if hash, ok := w.Want(); !ok || hash != mst.Hash(p) {
			t.Fatal(i, hash)
		}
		for _, wrong := range []api.Page{{}, {Marks: p.Marks}} {
			if err := w.Give(wrong); err != api.ErrForm {
				t.Error(i, err)
			}
		}
		if err := w.Give(leaf(77, api.Mark{}, api.Mark{})); err != api.ErrSum {
			t.Error(i, err)
		}
		if w.Given() != i || w.Give(p) != api.OK {
			t.Error(i, "give")
		}
	}
	// What is found isn't a tree of that root.
	if l, err := w.Found(); !w.Done() || l != nil || err != api.ErrSum {
		t.Error(err)
	}
	if got := slices.Collect(w.Asked()); !slices.Equal(got, []api.Mark{mst.Hash(a), mst.Hash(c), mst.Hash(b)}) {
		t.Error(got)
	}
	n := 0
	for hash := range seq {
		if n++; hash != mst.Hash(a) {
			t.Error("sees what came later")
		}
	}
	for range w.Asked() {
		n++
		break
	}
	if n != 2 {
		t.Error(n)
	}
}

// P18.1: what hangs below a page is asked for, once.
func TestAskedOnce(t *testing.T) {
	d := leaf(20, api.Mark{}, api.Mark{})
	c := leaf(9, api.Mark{}, mst.Hash(d))
	a := leaf(1, mst.Hash(c), mst.Hash(d))
	w := walk.New(nil, mst.Hash(a))
	for _, p := range []api.Page{a, c, d} {
		if err := w.Give(p); err != api.OK {
			t.Fatal(err)
		}
	}
	if !w.Done() || w.Given() != 3 {
		t.Error(w.Given())
	}
}

// P18.1: 4096 pages are taken, and no more.
func TestFull(t *testing.T) {
	pages := []api.Page{leaf(1, api.Mark{}, api.Mark{})}
	for len(pages) < 4097 {
		pages = append(pages, leaf(1, mst.Hash(pages[len(pages)-1]), api.Mark{}))
	}
	w := walk.New(nil, mst.Hash(pages[4096]))
	for i := range 4096 {
		if err := w.Give(pages[4096-i]); err != api.OK {
			t.Fatal(i, err)
		}
	}
	for range 2 {
		if err := w.Give(pages[1]); err != api.ErrSum {
			t.Error(err)
		}
		if err := w.Give(pages[0]); err != api.ErrFull || w.Given() != 4096 || w.Done() {
			t.Error(err)
		}
	}
}

// P18.1: what is handed in stays, and isn't kept.
func TestApart(t *testing.T) {
	p := leaf(1, api.Mark{}, api.Mark{}, api.Mark{})
	want := leaf(1, api.Mark{}, api.Mark{}, api.Mark{})
	w := walk.New(nil, mst.Hash(p))
	w.Give(p)
	if !page.Same(p, want) {
		t.Error("changed")
	}
	p.Marks[0] = api.Mark{}
	if l, err := w.Found(); err != api.OK || !marks.Same(l, want.Marks) {
		t.Error(l, err)
	}
}
