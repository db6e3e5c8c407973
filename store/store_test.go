package store_test

import (
	"bytes"
	"math/rand"
	"slices"
	"strconv"
	"strings"
	"testing"

	"gleanings/api"
	"gleanings/dot"
	"gleanings/pen"
	"gleanings/sibs"
	"gleanings/store"
	"gleanings/ver"
)

func fresh(t *testing.T, node, most int) *store.Store {
	s, err := store.New(node, most)
	if err != api.OK {
		t.Fatal(err)
	}
	return s
}

func item(t *testing.T, s string) api.Item {
	x, ok := ver.Parse(s)
	if !ok {
		t.Fatal("no item:", s)
	}
	return x
}

func clock(s string) api.Clock {
	c, _ := dot.Parse(s)
	return c
}

func texts(s *store.Store) string {
	var l []string
	for x := range s.Items() {
		l = append(l, ver.Text(x))
	}
	return strings.Join(l, ", ")
}

// P7.1: new stores, their numbers, and what Get tells.
func TestNewAndGet(t *testing.T) {
	for _, c := range [][2]int{{-1, 1}, {8, 1}, {0, -1}, {0, 257}} {
		if s, err := store.New(c[0], c[1]); s != nil || err != api.ErrArg {
			t.Error(c, err)
		}
	}
	s := fresh(t, 7, 256)
	if s.Node() != 7 || s.Most() != 256 || s.Len() != 0 || s.Count() != 0 {
		t.Error("new")
	}
	s.Put("k", nil, []byte("v"))
	s.Put("k", nil, []byte("w"))
	s.Put("k", nil, nil)
	s.Put("a", nil, []byte("a"))
	s.Delete("a", clock("7:1"))
	values, c, err := s.Get("k")
	if err != api.OK || len(values) != 3 || string(values[0])+string(values[1])+string(values[2]) != "vw" || dot.Text(c) != "7:1-3" || s.Len() != 2 || s.Count() != 4 {
		t.Error(values, c, err)
	}
	if values, c, err := s.Get("a"); err != api.OK || len(values) != 0 || dot.Text(c) != "7:1-2" {
		t.Error(values, c, err)
	}
	for key, want := range map[string]api.Errno{"": api.ErrArg, strings.Repeat("k", 25): api.ErrArg, "b": api.ErrNone, strings.Repeat("k", 24): api.ErrNone} {
		if values, c, err := s.Get(key); err != want || values != nil || c != nil {
			t.Error(key, err)
		}
	}
}

// P7.1, P7.2: the chapter's example.
func TestExample(t *testing.T) {
	s := fresh(t, 0, 9)
	x, err := s.Put("k", nil, []byte("v"))
	if err != api.OK || ver.Text(x) != "6b 0:1 [-] 76" {
		t.Error(ver.Text(x), err)
	}
	if x, err = s.Delete("k", clock("0:1")); err != api.OK || ver.Text(x) != "6b 0:2 [0:1] gone" || texts(s) != ver.Text(x) {
		t.Error(ver.Text(x), err)
	}
	if values, c, err := s.Get("k"); len(values) != 0 || dot.Text(c) != "0:1-2" || err != api.OK {
		t.Error(values, c, err)
	}
}

// P7.2: the errors of writes, in their order; nothing has changed beside one.
func TestWriteErrors(t *testing.T) {
	s := fresh(t, 0, 2)
	s.Put("k", nil, []byte("v"))
	for i := range 7 {
		s.Take(item(t, "6b 1:"+strconv.Itoa(i+1)+" [-] 77"))
	}
	s.Take(item(t, "6c 0:1099511627776 [-] 77"))
	var many api.Clock
	for i := range 33 {
		many = append(many, api.Run{Node: 1, From: 3*i + 20, To: 3*i + 20})
	}
	wrong, long := api.Clock{{Node: 0, From: 0}}, make([]byte, 65)
	before := s.Bytes()
	for i, c := range []struct {
		key   string
		past  api.Clock
		value []byte
		put   api.Errno
		del   api.Errno
	}{
		{"", wrong, long, api.ErrArg, api.ErrArg},
		{strings.Repeat("k", 25), nil, nil, api.ErrArg, api.ErrArg},
		{"k", wrong, long, api.ErrArg, api.ErrArg},
		{"x", wrong, nil, api.ErrArg, api.ErrArg},
		{"k", many, long, api.ErrArg, api.ErrArg},
		{"x", clock("0:1"), long, api.ErrLarge, api.ErrNone},
		{"x", clock("0:1"), nil, api.ErrContext, api.ErrNone},
		{"x", clock("1:1"), nil, api.ErrFull, api.ErrNone},
		{"k", clock("0:1-2"), nil, api.ErrContext, api.ErrContext},
		{"k", clock("0:2"), nil, api.ErrContext, api.ErrContext},
		{"k", nil, nil, api.ErrFull, api.ErrFull},
		{"k", clock("2:1"), nil, api.ErrFull, api.ErrFull},
		{"l", nil, nil, api.ErrFull, api.ErrFull},
	} {
		if x, err := s.Put(c.key, c.past, c.value); err != c.put || !ver.Same(x, api.Item{}) {
			t.Error(i, "put", err, c.put)
		}
		if x, err := s.Delete(c.key, c.past); err != c.del || !ver.Same(x, api.Item{}) {
			t.Error(i, "delete", err, c.del)
		}
		if !bytes.Equal(s.Bytes(), before) {
			t.Fatal(i, "changed")
		}
	}
	if x, err := s.Put("k", many[:32], make([]byte, 64)); err != api.ErrFull {
		t.Error(x, err)
	}
	if x, err := s.Put("k", clock("0:1"), make([]byte, 64)); err != api.OK || x.Dot != (api.Dot{N: 2}) || s.Count() != 9 {
		t.Error(x, err)
	}
	none := fresh(t, 0, 0)
	if _, err := none.Put("k", nil, nil); err != api.ErrFull || none.Len() != 0 {
		t.Error("most 0", err)
	}
}

// P7.3: what is taken, and what isn't.
func TestTake(t *testing.T) {
	s := fresh(t, 0, 1)
	if ok, err := s.Take(api.Item{Key: "k"}); ok || err != api.ErrArg {
		t.Error(ok, err)
	}
	for _, c := range []struct {
		x    string
		ok   bool
		err  api.Errno
		have string
	}{
		{"6b 1:1 [-] 76", true, api.OK, "6b 1:1 [-] 76"},
		{"6b 1:1 [-] 76", false, api.OK, "6b 1:1 [-] 76"},
		{"6c 1:1 [-] 76", false, api.ErrFull, "6b 1:1 [-] 76"},
		{"6b 0:1 [-] 77", true, api.OK, "6b 0:1 [-] 77, 6b 1:1 [-] 76"},
		{"6b 2:1 [0:1 1:1] 78", true, api.OK, "6b 2:1 [0:1 1:1] 78"},
		{"6b 1:1 [-] 76", false, api.OK, "6b 2:1 [0:1 1:1] 78"},
	} {
		if ok, err := s.Take(item(t, c.x)); ok != c.ok || err != c.err || texts(s) != c.have {
			t.Error(c, ok, err, texts(s))
		}
	}
	for i := range 7 {
		if ok, err := s.Take(item(t, "6b 3:"+strconv.Itoa(i+1)+" [-] 77")); !ok || err != api.OK {
			t.Error(i, ok, err)
		}
	}
	before := s.Bytes()
	if ok, err := s.Take(item(t, "6b 4:1 [-] 77")); ok || err != api.ErrFull || !bytes.Equal(s.Bytes(), before) {
		t.Error("a ninth one", ok, err)
	}
	if ok, err := s.Take(item(t, "6b 4:1 [3:1] 77")); !ok || err != api.OK {
		t.Error("a ninth one that is above one", ok, err)
	}
	own := item(t, "6b 5:1 [3:1-9] 77")
	s.Take(own)
	own.Value[0], own.Past[0].To = 'x', 7
	if !strings.Contains(texts(s), "6b 5:1 [3:1-9] 77") {
		t.Error("what was handed in is kept", texts(s))
	}
}

// P7.4: items, scans, marks, and who is found.
func TestItems(t *testing.T) {
	s := fresh(t, 0, 9)
	for _, k := range []string{"c", "a", "b", "b"} {
		s.Put(k, nil, []byte(k))
	}
	seq, scan := s.Items(), s.Scan("b", "c")
	s.Delete("b", clock("0:1"))
	s.Put("d", nil, nil)
	for range 2 {
		var l, m []string
		for x := range seq {
			l = append(l, x.Key)
			x.Value[0] = 'x'
		}
		for x := range scan {
			m = append(m, ver.Text(x))
		}
		if strings.Join(l, "") != "abbc" || strings.Join(m, ",") != "62 0:1 [-] 62,62 0:2 [-] 62" {
			t.Error(l, m)
		}
	}
	for c, want := range map[[2]string]string{{"", ""}: "abbcd", {"b", ""}: "bbcd", {"", "b"}: "a", {"b", "b"}: "", {"c", "a"}: "", {"bb", "cc"}: "c"} {
		got := ""
		for x := range s.Scan(c[0], c[1]) {
			got += x.Key
		}
		if got != want {
			t.Error(c, got)
		}
	}
	for x := range s.Items() {
		if x.Key != "a" {
			t.Error("goes on")
		}
		break
	}
	l := s.Marks()
	if len(l) != 5 || !slices.IsSortedFunc(l, func(a, b api.Mark) int { return bytes.Compare(a[:], b[:]) }) {
		t.Error(l)
	}
	for x := range s.Items() {
		if got, ok := s.Find(ver.Mark(x)); !ok || !ver.Same(got, x) || !slices.Contains(l, ver.Mark(x)) {
			t.Error("find", got, ok)
		}
	}
	gone := item(t, "62 0:1 [-] 62")
	if got, ok := s.Find(ver.Mark(gone)); ok || !ver.Same(got, api.Item{}) || slices.Contains(l, ver.Mark(gone)) {
		t.Error("what is gone is found", got)
	}
}

// P7.5: bytes, their errors, clones.
func TestBytesAndLoad(t *testing.T) {
	s := fresh(t, 0, 9)
	s.Put("k", nil, []byte("v"))
	s.Put("k", nil, []byte("w"))
	s.Put("l", nil, nil)
	c := s.Clone()
	d := c.Clone()
	c.Put("m", nil, nil)
	s.Delete("l", clock("0:1"))
	if c.Len() != 3 || s.Len() != 2 || d.Len() != 2 || store.Same(s, c) || store.Same(s, d) || len(c.Marks()) != 4 || len(s.Marks()) != 3 || c.Node() != 0 || c.Most() != 9 {
		t.Error("clones aren't apart")
	}
	back, err := store.Load(3, 9, c.Bytes())
	if err != api.OK || !store.Same(back, c) || !slices.Equal(back.Marks(), c.Marks()) || back.Count() != 4 || back.Node() != 3 {
		t.Error("load", err)
	}
	bytesOf := func(n uint64, l ...string) []byte {
		var p pen.Pen
		p.Number(n)
		for _, x := range l {
			ver.Put(&p, item(t, x))
		}
		return p.Bytes()
	}
	nine := []string{}
	for i := range 9 {
		nine = append(nine, "6b 0:"+strconv.Itoa(i+1)+" [-] 76")
	}
	a, b, x := "6b 0:1 [-] 76", "6b 1:1 [-] 76", "6c 0:1 [-] 76"
	for i, c := range []struct {
		node, most int
		b          []byte
		want       api.Errno
	}{
		{8, 1, nil, api.ErrArg}, {0, 257, bytesOf(0), api.ErrArg}, {0, 1, nil, api.ErrEnd}, {0, 0, bytesOf(0), api.OK},
		{0, 9, bytesOf(2, a), api.ErrEnd}, {0, 9, bytesOf(2049), api.ErrLong}, {0, 9, bytesOf(1<<63, a), api.ErrLong}, {0, 9, []byte{1, 0, 0, 3, 0, 1}, api.ErrForm},
		{0, 9, bytesOf(2, b, a), api.ErrForm}, {0, 9, bytesOf(2, a, a), api.ErrForm}, {0, 9, bytesOf(2, x, a), api.ErrForm}, {0, 9, bytesOf(2, a, "6b 1:1 [0:1] 76"), api.ErrForm},
		{0, 1, bytesOf(3, a, b, x), api.ErrFull}, {0, 0, bytesOf(1, a), api.ErrFull}, {0, 0, bytesOf(2, b, a), api.ErrForm}, {0, 9, bytesOf(9, nine...), api.ErrFull},
		{0, 9, bytesOf(1, a, b), api.ErrTrail}, {0, 0, bytesOf(1, a, b), api.ErrFull}, {0, 9, bytesOf(8, nine[:8]...), api.OK}, {0, 2, bytesOf(3, a, b, x), api.OK},
	} {
		s, err := store.Load(c.node, c.most, c.b)
		if err != c.want || (s == nil) != (err != api.OK) {
			t.Error(i, err, c.want)
		}
		if s != nil && !bytes.Equal(s.Bytes(), c.b) {
			t.Error(i, "bytes")
		}
	}
	if !store.Same(nil, fresh(t, 1, 1)) || !store.Same(nil, nil) || store.Same(nil, c) || store.Same(c, nil) {
		t.Error("same with nil")
	}
	x1, x2 := fresh(t, 0, 1), fresh(t, 1, 2)
	x1.Take(item(t, a))
	x2.Take(item(t, b))
	if store.Same(x1, x2) {
		t.Error("unlike items are the same")
	}
}

// P7.2: what is handed in and answered is apart from the store.
func TestWritesApart(t *testing.T) {
	s := fresh(t, 0, 9)
	s.Put("k", nil, []byte("u"))
	value, past := []byte("v"), clock("0:1 3:4")
	x, _ := s.Put("k", past, value)
	value[0], past[0].To = 'w', 9
	x.Value[0], x.Past[1].To = 'x', 9
	y, _ := s.Put("k", nil, value)
	if y.Value[0] = 'y'; value[0] != 'w' || texts(s) != "6b 0:2 [0:1 3:4] 76, 6b 0:3 [-] 77" {
		t.Error("shared", texts(s))
	}
}

// P7.5: the most that a store may have.
func TestMost(t *testing.T) {
	s := fresh(t, 0, 256)
	for i := range 256 {
		for range 8 {
			if _, err := s.Put("k"+strconv.Itoa(i), nil, nil); err != api.OK {
				t.Fatal(i, err)
			}
		}
	}
	back, err := store.Load(1, 256, s.Bytes())
	if err != api.OK || back.Count() != 2048 || !store.Same(back, s) {
		t.Error(err)
	}
}

// P7.6: what a key has, against sets of writes.
func TestAgainstWrites(t *testing.T) {
	r := rand.New(rand.NewSource(7))
	for range 60 {
		stores := []*store.Store{fresh(t, 0, 9), fresh(t, 1, 9), fresh(t, 2, 9)}
		came := make([]map[string]api.Item, 3)
		for i := range came {
			came[i] = map[string]api.Item{}
		}
		contexts := map[string][]api.Clock{}
		for range 60 {
			i, key := r.Intn(3), string(rune('a'+r.Intn(2)))
			s := stores[i]
			switch r.Intn(4) {
			case 0:
				for _, x := range came[r.Intn(3)] {
					if _, err := s.Take(x); err == api.OK {
						came[i][ver.Text(x)] = x
					}
				}
			case 1:
				if _, c, err := s.Get(key); err == api.OK {
					contexts[key] = append(contexts[key], c)
				}
			default:
				var past api.Clock
				if l := contexts[key]; len(l) > 0 && r.Intn(4) > 0 {
					past = l[r.Intn(len(l))]
				}
				x, err := s.Put(key, past, []byte{byte(r.Intn(9))})
				if r.Intn(3) == 0 && err == api.OK {
					came[i][ver.Text(x)] = x
					x, err = s.Delete(key, past)
				}
				if err == api.OK {
					came[i][ver.Text(x)] = x
				}
			}
			for i, s := range stores {
				holds(t, s, came[i])
			}
		}
	}
}

// holds: has a store just the items that none of those that came is above?
func holds(t *testing.T, s *store.Store, came map[string]api.Item) {
	var want []api.Item
	for _, x := range came {
		stands := true
		for _, y := range came {
			stands = stands && !ver.Above(y, x)
		}
		if stands {
			want = append(want, x)
		}
	}
	slices.SortFunc(want, ver.Compare)
	got := slices.Collect(s.Items())
	if !sibs.Same(got, want) || s.Count() != len(want) {
		t.Fatal("doesn't hold", got, want)
	}
	var marks []api.Mark
	for _, x := range got {
		marks = append(marks, ver.Mark(x))
	}
	slices.SortFunc(marks, func(a, b api.Mark) int { return bytes.Compare(a[:], b[:]) })
	if !slices.Equal(marks, s.Marks()) {
		t.Fatal("marks", got)
	}
}

// P7.7: two stores that took each other's items are the same.
func TestTwoAgree(t *testing.T) {
	r := rand.New(rand.NewSource(8))
	for range 100 {
		a, b := fresh(t, 0, 9), fresh(t, 1, 9)
		for range 20 {
			s, from := a, b
			if r.Intn(2) == 0 {
				s, from = b, a
			}
			key := string(rune('a' + r.Intn(3)))
			_, c, _ := s.Get(key)
			if r.Intn(3) == 0 {
				c = nil
			}
			s.Put(key, c, []byte{1})
			for x := range from.Items() {
				if r.Intn(3) == 0 {
					s.Take(x)
				}
			}
		}
		full := false
		ofA, ofB := a.Items(), b.Items()
		for x := range ofA {
			_, err := b.Take(x)
			full = full || err == api.ErrFull
		}
		for x := range ofB {
			_, err := a.Take(x)
			full = full || err == api.ErrFull
		}
		if !full && (!store.Same(a, b) || !bytes.Equal(a.Bytes(), b.Bytes())) {
			t.Fatal("aren't the same:", texts(a), "|", texts(b))
		}
	}
}

// P7.1 to P7.5: a nil store.
func TestNil(t *testing.T) {
	var s *store.Store
	_, _, getErr := s.Get("")
	_, putErr := s.Put("", nil, nil)
	_, delErr := s.Delete("", nil)
	_, takeErr := s.Take(api.Item{})
	if getErr != api.ErrNil || putErr != api.ErrNil || delErr != api.ErrNil || takeErr != api.ErrNil {
		t.Error("errors")
	}
	if _, ok := s.Find(api.Mark{}); ok || s.Node() != 0 || s.Most() != 0 || s.Len() != 0 || s.Count() != 0 || s.Marks() != nil || s.Bytes() != nil || s.Clone() != nil {
		t.Error("answers")
	}
	for range s.Items() {
		t.Error("items")
	}
	for range s.Scan("", "") {
		t.Error("items")
	}
}
