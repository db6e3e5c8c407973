package resolve_test

import (
	"slices"
	"strings"
	"testing"

	"gleanings/api"
	"gleanings/dot"
	"gleanings/resolve"
	"gleanings/store"
	"gleanings/ver"
)

func values(words ...string) [][]byte {
	var l [][]byte
	for _, w := range words {
		l = append(l, []byte(w))
	}
	return l
}

func fresh(t *testing.T) *store.Store {
	s, err := store.New(0, 9)
	if err != api.OK {
		t.Fatal(err)
	}
	return s
}

func clock(s string) api.Clock {
	c, _ := dot.Parse(s)
	return c
}

func torn(s *store.Store) []string {
	var l []string
	for key, n := range resolve.Torn(s) {
		l = append(l, strings.Repeat(key, n))
	}
	return l
}

// P35.1: values by each way.
func TestValue(t *testing.T) {
	for _, c := range []struct {
		l    [][]byte
		want []string // by ways
	}{
		{values("b"), []string{"b", "b", "b", "b", "b", "0"}},
		{values("bb", "a", "cc", "a"), []string{"bb", "a", "bb", "cc", "a,bb,cc", "0"}},
		{values("2", "x", "30"), []string{"2", "30", "30", "x", "2,30,x", "32"}},
		{values("", "10", "9"), []string{"", "9", "10", "9", ",10,9", "19"}},
		{values("999999999", "999999999", "1000000000", "01", "0", "-1", "+1", " 1", "1 ", ""), []string{"999999999", "", "1000000000", "999999999", ", 1,+1,-1,0,01,1 ,1000000000,999999999", "1999999998"}},
		{values("", ""), []string{"", "", "", "", "", "0"}},
	} {
		for way, want := range c.want {
			before := slices.Concat(c.l...)
			got, ok := resolve.Value(c.l, way)
			if !ok || string(got) != want {
				t.Errorf("%q by %d: %q", c.l, way, got)
			}
			for i := range got {
				got[i] = 'z'
			}
			if !slices.Equal(slices.Concat(c.l...), before) {
				t.Error("changed", way)
			}
		}
	}
	for _, way := range []int{-1, 6} {
		if got, ok := resolve.Value(values("a"), way); ok || got != nil {
			t.Error(way)
		}
	}
	for way := range 6 {
		if got, ok := resolve.Value(nil, way); ok || got != nil {
			t.Error("of nothing", way)
		}
	}
}

// P35.2: torn keys.
func TestTorn(t *testing.T) {
	s := fresh(t)
	for _, k := range []string{"c", "a", "b", "b", "c", "c", "d", "d"} {
		s.Put(k, nil, []byte("v"))
	}
	s.Delete("d", clock("0:1"))
	seq := resolve.Torn(s)
	if l := torn(s); !slices.Equal(l, []string{"bb", "ccc"}) {
		t.Error(l)
	}
	s.Put("a", nil, nil)
	s.Put("b", clock("0:1-2"), nil)
	for range 2 {
		var l []string
		for key := range seq {
			l = append(l, key)
		}
		if !slices.Equal(l, []string{"b", "c"}) {
			t.Error(l)
		}
	}
	for key := range seq {
		if key != "b" {
			t.Error("goes on")
		}
		break
	}
	if l := torn(s); !slices.Equal(l, []string{"aa", "ccc"}) || len(torn(nil)) > 0 {
		t.Error(l)
	}
}

// P35.3: errors of Resolve, in their order.
func TestResolveErrors(t *testing.T) {
	s := fresh(t)
	s.Put("one", nil, []byte("v"))
	s.Put("gone", nil, []byte("v"))
	s.Delete("gone", clock("0:1"))
	for range 3 {
		s.Put("long", nil, []byte(strings.Repeat("x", 60)))
	}
	s.Put("long", nil, []byte("y"+strings.Repeat("x", 60)))
	before := s.Bytes()
	for i, c := range []struct {
		s    *store.Store
		key  string
		way  int
		want api.Errno
	}{
		{nil, "", -1, api.ErrNil}, {s, "", -1, api.ErrArg}, {s, strings.Repeat("k", 25), 0, api.ErrArg}, {s, "none", -1, api.ErrNone}, {s, "gone", 6, api.ErrArg}, {s, "one", -1, api.ErrArg},
		{s, "gone", 0, api.ErrNone}, {s, "one", 0, api.ErrTurn}, {s, "long", api.ByJoin, api.ErrLarge},
	} {
		if x, err := resolve.Resolve(c.s, c.key, c.way); err != c.want || !ver.Same(x, api.Item{}) {
			t.Error(i, err, c.want)
		}
	}
	if string(s.Bytes()) != string(before) {
		t.Error("changed")
	}
}

// P35.3, P35.4: behind Resolve the key has the item alone.
func TestResolve(t *testing.T) {
	for way, want := range []string{"20", "9", "20", "9", "20,3,9", "32"} {
		s := fresh(t)
		for _, v := range []string{"20", "3", "9"} {
			s.Put("k", nil, []byte(v))
		}
		x, err := resolve.Resolve(s, "k", way)
		got := slices.Collect(s.Items())
		if err != api.OK || string(x.Value) != want || x.Dot.N != 4 || dot.Text(x.Past) != "0:1-3" || len(got) != 1 || !ver.Same(got[0], x) || len(torn(s)) > 0 {
			t.Error(way, x, err)
		}
		if _, err := resolve.Resolve(s, "k", way); err != api.ErrTurn {
			t.Error("again", err)
		}
	}
	// One live value beside one that is gone.
	s := fresh(t)
	s.Put("k", nil, []byte("a"))
	s.Delete("k", nil)
	if x, err := resolve.Resolve(s, "k", api.ByFirst); err != api.OK || ver.Text(x) != "6b 0:3 [0:1-2] 61" || s.Count() != 1 {
		t.Error(ver.Text(x), err)
	}
}

// P35.3: all torn keys, and the first error.
func TestAll(t *testing.T) {
	if l, err := resolve.All(nil, -1); l != nil || err != api.ErrNil {
		t.Error(err)
	}
	s := fresh(t)
	for _, way := range []int{-1, 6} {
		if l, err := resolve.All(s, way); l != nil || err != api.ErrArg {
			t.Error(err)
		}
	}
	if l, err := resolve.All(s, api.ByFirst); len(l) > 0 || err != api.OK {
		t.Error(err)
	}
	for _, k := range []string{"a", "b", "b", "c", "c", "d", "d"} {
		s.Put(k, nil, []byte(k))
	}
	s.Put("c", nil, []byte(strings.Repeat("x", 63)))
	if l, err := resolve.All(s, api.ByJoin); l != nil || err != api.ErrLarge || !slices.Equal(torn(s), []string{"ccc", "dd"}) {
		t.Error(err, torn(s))
	}
	l, err := resolve.All(s, api.ByFirst)
	if err != api.OK || len(l) != 2 || ver.Text(l[0]) != "63 0:4 [0:1-3] 63" || l[1].Key != "d" || len(torn(s)) > 0 {
		t.Error(l, err)
	}
}
