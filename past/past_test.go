package past_test

import (
	"math/rand"
	"slices"
	"strconv"
	"strings"
	"testing"

	"gleanings/api"
	"gleanings/dot"
	"gleanings/past"
	"gleanings/sibs"
	"gleanings/store"
	"gleanings/ver"
)

func item(t *testing.T, s string) api.Item {
	x, ok := ver.Parse(s)
	if !ok {
		t.Fatal("no item:", s)
	}
	return x
}

func fresh(t *testing.T, nodes int) *past.Book {
	b, err := past.New(nodes)
	if err != api.OK {
		t.Fatal(err)
	}
	return b
}

func texts(l []api.Item) string {
	var all []string
	for _, x := range l {
		all = append(all, ver.Text(x))
	}
	return strings.Join(all, ", ")
}

// P8.1: books, what is noted, and in which order it came.
func TestNote(t *testing.T) {
	for _, n := range []int{-1, 0, 9} {
		if b, err := past.New(n); b != nil || err != api.ErrArg {
			t.Error(n, err)
		}
	}
	b := fresh(t, 8)
	if b.Nodes() != 8 || fresh(t, 1).Nodes() != 1 {
		t.Error(b.Nodes())
	}
	x, y := item(t, "6b 1:1 [0:3] 76"), item(t, "6b 0:1 [-] 77")
	for _, node := range []int{-1, 8} {
		if b.Note(node, x) != api.ErrArg {
			t.Error("node", node)
		}
	}
	if b.Note(0, api.Item{Key: "k"}) != api.ErrArg || b.Note(7, x) != api.OK {
		t.Error("note")
	}
	seq := b.Came(7)
	if b.Note(7, y) != api.OK || b.Note(7, x) != api.OK {
		t.Error("note")
	}
	for range 2 {
		for got := range seq {
			if !ver.Same(got, x) {
				t.Error("who goes through sees what came later")
			}
			got.Value[0], got.Past[0].To = 'x', 9
		}
	}
	x.Value[0], x.Past[0].To = 'z', 8
	if got := texts(slices.Collect(b.Came(7))); got != "6b 1:1 [0:3] 76, 6b 0:1 [-] 77" {
		t.Error(got)
	}
	for _, node := range []int{-1, 0, 8} {
		for range b.Came(node) {
			t.Error("came", node)
		}
	}
	for got := range b.Came(7) {
		if got.Dot.Node != 1 {
			t.Error("goes on")
		}
		break
	}
}

// P8.1: 2048 items come to a node, and no more.
func TestFull(t *testing.T) {
	b := fresh(t, 2)
	for i := range 2048 {
		if err := b.Note(1, item(t, "6b 0:"+strconv.Itoa(i+1)+" [-] 76")); err != api.OK {
			t.Fatal(i, err)
		}
	}
	late := item(t, "6b 1:1 [-] 76")
	if b.Note(1, late) != api.ErrFull || b.Note(1, item(t, "6b 0:7 [-] 76")) != api.OK || len(b.All()) != 2048 {
		t.Error("full")
	}
	if b.Note(0, late) != api.OK || len(b.All()) != 2049 || len(b.Live(1, "k")) != 2048 {
		t.Error("the other node")
	}
}

// P8.2: what is live at a node, and what stands of all.
func TestLiveAndStands(t *testing.T) {
	b := fresh(t, 2)
	b.Note(0, item(t, "6b 0:1 [-] 76"))
	b.Note(1, item(t, "6b 1:1 [0:1] 77"))
	b.Note(0, item(t, "6a 0:1 [-] gone"))
	b.Note(1, item(t, "6a 0:1 [-] gone"))
	if got := texts(b.Live(0, "k")); got != "6b 0:1 [-] 76" {
		t.Error(got)
	}
	if got := texts(b.Stands()); got != "6a 0:1 [-] gone, 6b 1:1 [0:1] 77" {
		t.Error(got)
	}
	if got := texts(b.All()); got != "6a 0:1 [-] gone, 6b 0:1 [-] 76, 6b 1:1 [0:1] 77" {
		t.Error(got)
	}
	values, c, err := b.Get(1, "k")
	if err != api.OK || len(values) != 1 || string(values[0]) != "w" || dot.Text(c) != "0:1 1:1" {
		t.Error(values, c, err)
	}
	if values, c, err = b.Get(0, "j"); err != api.OK || len(values) != 0 || dot.Text(c) != "0:1" {
		t.Error(values, c, err)
	}
	long := strings.Repeat("k", 25)
	for i, c := range []struct {
		node int
		key  string
		want api.Errno
	}{{-1, "k", api.ErrArg}, {2, "k", api.ErrArg}, {0, "", api.ErrArg}, {0, long, api.ErrArg}, {0, "x", api.ErrNone}, {0, long[:24], api.ErrNone}} {
		if values, clock, err := b.Get(c.node, c.key); err != c.want || values != nil || clock != nil || len(b.Live(c.node, c.key)) > 0 && c.want == api.ErrNone {
			t.Error(i, err)
		}
	}
	if b.Live(-1, "k") != nil || b.Live(2, "k") != nil {
		t.Error("live of no node")
	}
	b.Note(1, item(t, "6c 0:1 [-] 78"))
	if got := texts(b.Stands()); got != "6a 0:1 [-] gone, 6b 1:1 [0:1] 77, 6c 0:1 [-] 78" {
		t.Error(got)
	}
	all := b.All()
	all[2].Value[0] = 'x'
	b.Live(0, "k")[0].Value[0] = 'x'
	b.Stands()[1].Value[0] = 'x'
	if texts(b.All()) != "6a 0:1 [-] gone, 6b 0:1 [-] 76, 6b 1:1 [0:1] 77, 6c 0:1 [-] 78" || texts(b.Live(0, "k")) != "6b 0:1 [-] 76" {
		t.Error("answers are shared")
	}
}

// P8.2: genuine items.
func TestGenuine(t *testing.T) {
	b := fresh(t, 3)
	b.Note(0, item(t, "6b 0:1 [-] 76"))
	b.Note(1, item(t, "6b 1:1 [0:1] 77"))
	b.Note(1, item(t, "6c 2:1 [-] 77"))
	for s, want := range map[string]bool{
		"6b 2:5 [-] 00":            true,
		"6b 2:5 [0:1] 00":          true,
		"6b 2:5 [0:1 1:1] 00":      true,
		"6b 2:5 [1:1] 00":          false,
		"6b 2:5 [0:2] 00":          false,
		"6b 2:5 [0:1-2] 00":        false,
		"6b 2:5 [2:1] 00":          false,
		"6c 1:5 [2:1] 00":          true,
		"6d 1:5 [2:1] 00":          false,
		"6d 1:5 [-] 00":            true,
		"6b 2:5 [0:1-99999999] 00": false,
	} {
		if b.Genuine(item(t, s)) != want {
			t.Error(s)
		}
	}
	if b.Genuine(api.Item{}) {
		t.Error("genuine though not right")
	}
}

// P8.3: a store that takes all genuine items, in any order, has what stands.
func TestStoreHasWhatStands(t *testing.T) {
	r := rand.New(rand.NewSource(9))
	for range 60 {
		b := fresh(t, 3)
		stores := make([]*store.Store, 3)
		for i := range stores {
			stores[i], _ = store.New(i, 9)
		}
		for range 30 {
			i, key := r.Intn(3), string(rune('a'+r.Intn(2)))
			_, c, _ := stores[i].Get(key)
			if r.Intn(3) == 0 {
				c = nil
			}
			if x, err := stores[i].Put(key, c, []byte{byte(r.Intn(4))}); err == api.OK {
				if !b.Genuine(x) {
					t.Fatal("isn't genuine", ver.Text(x))
				}
				b.Note(i, x)
			}
			for x := range stores[r.Intn(3)].Items() {
				if _, err := stores[i].Take(x); err == api.OK {
					b.Note(i, x)
				}
			}
			for _, key := range []string{"a", "b"} {
				var have []api.Item
				for x := range stores[i].Scan(key, key+"\x00") {
					have = append(have, x)
				}
				if !sibs.Same(have, b.Live(i, key)) {
					t.Fatal("live", texts(have), texts(b.Live(i, key)))
				}
			}
		}
		all := b.All()
		r.Shuffle(len(all), func(i, j int) { all[i], all[j] = all[j], all[i] })
		late, _ := store.New(7, 9)
		full := false
		for _, x := range all {
			_, err := late.Take(x)
			full = full || err == api.ErrFull
		}
		if got := slices.Collect(late.Items()); !full && !sibs.Same(got, b.Stands()) {
			t.Fatal(texts(got), "|", texts(b.Stands()))
		}
	}
}

// P8.1, P8.2: a nil book.
func TestNil(t *testing.T) {
	var b *past.Book
	_, _, err := b.Get(0, "")
	if b.Nodes() != 0 || b.Note(0, api.Item{}) != api.ErrNil || err != api.ErrNil || b.Live(0, "k") != nil || b.All() != nil || b.Stands() != nil || b.Genuine(item(t, "6b 0:1 [-] 76")) {
		t.Error("nil")
	}
	for range b.Came(0) {
		t.Error("came to nobody")
	}
}
