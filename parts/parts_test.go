package parts_test

import (
	"math"
	"math/rand"
	"slices"
	"strings"
	"testing"

	"gleanings/api"
	"gleanings/msg"
	"gleanings/parts"
	"gleanings/sibs"
	"gleanings/ver"
)

// of makes a right item of so many bytes (from 7 to 300).
func of(n, size int) api.Item {
	x := api.Item{Key: "k", Dot: api.Dot{Node: n % 8, N: 1 + n%200}}
	rest := size - len(ver.Bytes(x))
	x.Value = make([]byte, min(64, rest))
	rest -= len(x.Value)
	x.Key = strings.Repeat("k", 1+min(23, rest))
	rest -= len(x.Key) - 1
	for i := 0; rest >= 3 && i < 32; i++ {
		x.Past = append(x.Past, api.Run{Node: 8 - 1, From: 201 + 2*i, To: 201 + 2*i})
		rest = size - len(ver.Bytes(x))
	}
	return x
}

func some(r *rand.Rand, n int) []api.Item {
	var l []api.Item
	for i := range n {
		x := of(i, 7+r.Intn(120))
		if !ver.Right(x) {
			x = api.Item{Key: "k", Dot: api.Dot{N: i + 1}}
		}
		l = append(l, x)
	}
	return l
}

func may(l []api.Item) bool {
	return msg.Right(api.Msg{Kind: api.Push, Sid: 1, Items: l})
}

// P21.1, P21.3: pieces are the list, may stand in a message, and no two side by side could be one.
func TestPieces(t *testing.T) {
	r := rand.New(rand.NewSource(31))
	for range 200 {
		l := some(r, r.Intn(150))
		var all, before []api.Item
		count := 0
		for n, piece := range parts.Items(l) {
			again, ok := parts.Piece(l, n)
			if n != count || !may(piece) || !ok || !sibs.Same(again, piece) || parts.Fit(l[len(all):]) != len(piece) {
				t.Fatal("piece", n)
			}
			if n > 0 && may(slices.Concat(before, piece)) {
				t.Fatal("two could be one", n)
			}
			if n > 0 && may(append(before, piece[0])) {
				t.Fatal("the piece ahead could have more", n)
			}
			count++
			all, before = append(all, piece...), piece
		}
		if parts.Count(l) != count || !sibs.Same(all, l) {
			t.Fatal("count", count)
		}
		for _, n := range []int{-1, count, math.MaxInt, math.MinInt} {
			if piece, ok := parts.Piece(l, n); ok || piece != nil {
				t.Fatal("no such piece", n)
			}
		}
	}
}

// P21.1: at most 40 items, at most 1400 bytes.
func TestEdges(t *testing.T) {
	var small []api.Item
	for i := range 81 {
		small = append(small, of(i, 7))
	}
	if parts.Fit(small) != 40 || parts.Count(small) != 3 || parts.Count(small[:80]) != 2 || parts.Fit(small[:3]) != 3 || parts.Count(small[:3]) != 1 {
		t.Error("small ones")
	}
	var wide []api.Item
	for i := range 20 {
		x := of(i, 70)
		wide = append(wide, x)
	}
	if msg.Weigh(wide) != 1400 || parts.Fit(wide) != 20 || parts.Count(wide) != 1 {
		t.Error("1400 bytes", msg.Weigh(wide), parts.Fit(wide))
	}
	wide[19] = of(19, 71)
	if msg.Weigh(wide) != 1401 || parts.Fit(wide) != 19 || parts.Count(wide) != 2 {
		t.Error("1401 bytes", msg.Weigh(wide), parts.Fit(wide))
	}
	wrong := append(slices.Clone(small[:5]), api.Item{Key: "k"})
	if parts.Fit(wrong) != 0 || parts.Count(wrong) != 0 || parts.Fit(nil) != 0 || parts.Count(nil) != 0 {
		t.Error("an item that isn't right")
	}
	if piece, ok := parts.Piece(wrong, 0); ok || piece != nil {
		t.Error("a piece of it")
	}
	for range parts.Items(wrong) {
		t.Error("pieces of it")
	}
	for range parts.Items(nil) {
		t.Error("pieces of nothing")
	}
}

// P21.1: as it was when it was asked, again, left off, in new memory.
func TestApart(t *testing.T) {
	r := rand.New(rand.NewSource(32))
	l := some(r, 100)
	want := slices.Clone(l)
	seq := parts.Items(l)
	clear(l)
	for range 2 {
		i := 0
		for n, piece := range seq {
			for _, x := range piece {
				if !ver.Same(x, want[i]) {
					t.Fatal("item", i)
				}
				i++
			}
			for j := range piece {
				clear(piece[j].Value)
				piece[j].Key = ""
			}
			_ = append(piece, api.Item{})
			if n == 1 {
				break
			}
		}
	}
	l = slices.Clone(want)
	piece, _ := parts.Piece(l, 0)
	piece[0].Key = "x"
	if !ver.Same(l[0], want[0]) {
		t.Error("shared")
	}
}

// P21.2: hundreds of marks.
func TestMarks(t *testing.T) {
	var l []api.Mark
	for i := range 250 {
		l = append(l, api.Mark{byte(255 - i)})
	}
	for n, size := range map[int]int{0: 100, 1: 100, 2: 50, 3: 0, -1: 0, math.MaxInt: 0, math.MinInt: 0} {
		got, ok := parts.Marks(l, n)
		if ok != (size > 0) || len(got) != size || size > 0 && !slices.Equal(got, l[100*n:100*n+size]) {
			t.Error(n, len(got), ok)
		}
	}
	if got, ok := parts.Marks(l[:200], 2); ok || got != nil {
		t.Error("behind the last one")
	}
	if got, ok := parts.Marks(nil, 0); ok || got != nil {
		t.Error("of nothing")
	}
	got, _ := parts.Marks(l, 0)
	got[0] = api.Mark{1}
	_ = append(got, api.Mark{2})
	if l[0] != (api.Mark{255}) || l[100] != (api.Mark{155}) {
		t.Error("shared")
	}
}
