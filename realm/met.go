package realm

import (
	"gleanings/api"
	"gleanings/follow"
	"gleanings/lead"
	"gleanings/marks"
	"gleanings/msg"
	"gleanings/mst"
	"gleanings/node"
	"gleanings/pen"
	"gleanings/ver"
)

// sumBytes is how many bytes a frame's sum has.
const sumBytes = 8

// content that has a digest.
type content struct{ bytes string }

// sessions of a node whose trees were looked at, and whether they were again, when these didn't run any more.
type sessions struct {
	lead     *lead.Lead
	leadOver bool
	follows  []*follow.Follow
	over     []bool
}

// digests of all that there was, as long as no two were met.
type digests struct {
	met    bool
	items  map[api.Mark]content
	pages  map[api.Mark]content
	frames map[[sumBytes]byte]content
	looked []sessions // by nodes
}

func newDigests(nodes int) digests {
	d := digests{items: map[api.Mark]content{}, pages: map[api.Mark]content{}, frames: map[[sumBytes]byte]content{}, looked: make([]sessions, nodes)}
	for i := range d.looked {
		d.looked[i].follows = make([]*follow.Follow, nodes)
		d.looked[i].over = make([]bool, nodes)
	}
	return d
}

// keep what has a digest; false: something else had it.
func keep[K comparable](all map[K]content, digest K, b []byte) bool {
	c := content{bytes: string(b)}
	if old, had := all[digest]; had {
		return old == c
	}
	all[digest] = c
	return true
}

// item that a store has.
func (d *digests) item(x api.Item) {
	if !d.met {
		d.met = !keep(d.items, ver.Mark(x), ver.Bytes(x))
	}
}

// sumOf a frame's bytes: the last eight.
func sumOf(b []byte) [sumBytes]byte {
	var sum [sumBytes]byte
	copy(sum[:], b[max(0, len(b)-sumBytes):])
	return sum
}

// said: a node said a frame.
func (d *digests) said(b []byte) {
	if !d.met {
		d.met = !keep(d.frames, sumOf(b), b)
	}
}

// came: bytes came; did somebody make a message of them that no node said?
func (d *digests) came(b []byte) {
	if d.met || d.frames[sumOf(b)] == (content{bytes: string(b)}) {
		return
	}
	_, err := msg.Read(b)
	d.met = err == api.OK
}

// pageBytes are what is hashed of a page.
func pageBytes(p api.Page) []byte {
	var w pen.Pen
	w.Number(uint64(p.Tier))
	w.Number(uint64(len(p.Marks)))
	for _, l := range [2][]api.Mark{p.Marks, p.Kids} {
		for _, m := range l {
			w.Fixed(m[:])
		}
	}
	return w.Bytes()
}

// tree that there is.
func (d *digests) tree(t *mst.Tree) {
	if d.met {
		return
	}
	for hash, p := range t.Pages() {
		if hash == (api.Mark{}) || !keep(d.pages, hash, pageBytes(p)) {
			d.met = true
		}
	}
}

// changed set: without some marks, and with others.
func changed(set, without, with []api.Mark) *mst.Tree {
	return mst.Of(marks.Union(marks.Minus(set, without), marks.Of(with...))...)
}

// lead of a node.
func (d *digests) lead(own *sessions, l *lead.Lead) {
	if l != own.lead {
		own.lead, own.leadOver = l, false
		d.tree(l.Pin().Tree())
	}
	if l == nil || own.leadOver || l.State() == api.Runs {
		return
	}
	own.leadOver = true
	if diff, known := l.Diff(); known {
		d.tree(changed(l.Pin().Marks(), diff.Plus, diff.Minus))
	}
}

// follow of a node, of another one.
func (d *digests) follow(own *sessions, other int, f *follow.Follow) {
	if f != own.follows[other] {
		own.follows[other], own.over[other] = f, false
		d.tree(f.Pin().Tree())
	}
	if f == nil || own.over[other] || f.State() == api.Runs {
		return
	}
	own.over[other] = true
	d.tree(changed(f.Pin().Marks(), f.Fetched(), f.Taken()))
}

// node: its sessions, as they are.
func (d *digests) node(i int, x *node.Node) {
	if d.met {
		return
	}
	own := &d.looked[i]
	d.lead(own, x.Lead())
	for other := range own.follows {
		d.follow(own, other, x.Follow(other))
	}
}
