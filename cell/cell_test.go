package cell_test

import (
	"bytes"
	"math"
	"math/rand"
	"testing"

	"gleanings/api"
	"gleanings/cell"
	"gleanings/pen"
	"gleanings/sip"
)

func mark(n byte) api.Mark { return api.Mark{0: n, 15: n} }

// P10.1: checks, cells, and what is pure.
func TestCells(t *testing.T) {
	m := mark(5)
	c := cell.Of(m)
	if cell.Check(m) != sip.Hash(sip.Seed(3), m[:]) || c != (api.Cell{Count: 1, Mark: m, Check: cell.Check(m)}) {
		t.Error(c)
	}
	d := cell.Of(mark(6))
	sum := cell.Add(c, d)
	if sum.Count != 2 || sum.Mark != (api.Mark{0: 3, 15: 3}) || sum.Check != c.Check^d.Check || cell.Pure(sum) != 0 {
		t.Error(sum)
	}
	less := cell.Sub(c, d)
	if less.Count != 0 || less.Mark != sum.Mark || less.Check != sum.Check || cell.Pure(less) != 0 {
		t.Error(less)
	}
	if cell.Sub(sum, d) != c || cell.Sum(c, d) != sum || cell.Sum() != (api.Cell{}) || cell.Sum(c) != c {
		t.Error("sums")
	}
	if cell.Pure(c) != 1 || cell.Pure(cell.Sub(api.Cell{}, c)) != -1 || cell.Pure(api.Cell{}) != 0 {
		t.Error("pure ones")
	}
	for _, x := range []api.Cell{{Count: 1, Mark: m}, {Count: 3, Mark: m, Check: c.Check}, {Count: 0, Mark: m, Check: c.Check}, {Count: -2, Mark: m, Check: c.Check}} {
		if cell.Pure(x) != 0 {
			t.Error("isn't pure:", x)
		}
	}
	if cell.Add(api.Cell{Count: math.MaxInt}, c).Count != math.MinInt || cell.Sub(api.Cell{Count: math.MinInt}, c).Count != math.MaxInt {
		t.Error("counts wrap round")
	}
	for n, want := range map[int]bool{0: true, 1 << 20: true, -1 << 20: true, 1<<20 + 1: false, -1<<20 - 1: false, math.MinInt: false} {
		if cell.Right(api.Cell{Count: n}) != want {
			t.Error(n)
		}
	}
}

// P10.2: bytes and their errors.
func TestBytes(t *testing.T) {
	c := api.Cell{Count: -2, Mark: mark(9), Check: 0x0102030405060708}
	var p pen.Pen
	want := append([]byte{3, 9, 0, 0, 0, 0, 0, 0, 0, 0, 0, 0, 0, 0, 0, 0, 9}, 1, 2, 3, 4, 5, 6, 7, 8)
	if !cell.Put(&p, c) || !bytes.Equal(p.Bytes(), want) {
		t.Errorf("%x", p.Bytes())
	}
	for _, n := range []int{1<<20 + 1, -1<<20 - 1} {
		if cell.Put(&p, api.Cell{Count: n}) || len(p.Bytes()) != 25 {
			t.Error("put of", n)
		}
	}
	for _, n := range []int{0, 1 << 20, -1 << 20, 7} {
		var p pen.Pen
		c.Count = n
		cell.Put(&p, c)
		e := pen.Read(p.Bytes())
		if got := cell.Get(e); got != c || e.End() != api.OK || len(p.Bytes()) > 28 {
			t.Error(n, got)
		}
	}
	signed := func(n int, rest int) []byte {
		var p pen.Pen
		p.Signed(n)
		p.Fixed(make([]byte, rest))
		return p.Bytes()
	}
	for _, c := range []struct {
		b    []byte
		want api.Errno
	}{{nil, api.ErrEnd}, {signed(1, 23), api.ErrEnd}, {signed(1<<20+1, 24), api.ErrLong}, {signed(-1<<20-1, 24), api.ErrLong}, {signed(1<<20+1, 23), api.ErrEnd}, {append([]byte{248, 0}, make([]byte, 24)...), api.ErrForm}} {
		e := pen.Read(c.b)
		if got := cell.Get(e); got != (api.Cell{}) || e.Err() != c.want {
			t.Error(c.b, got, e.Err())
		}
	}
	if cell.Get(nil) != (api.Cell{}) {
		t.Error("nil eye")
	}
	cell.Put(nil, c)
}

// P10.3: the order says nothing, and what is left alone is pure.
func TestOrder(t *testing.T) {
	r := rand.New(rand.NewSource(11))
	for range 500 {
		var all, back api.Cell
		l := make([]api.Cell, r.Intn(9))
		for i := range l {
			l[i] = cell.Of(mark(byte(1 + r.Intn(200))))
			all = cell.Add(all, l[i])
		}
		for i := range l {
			back = cell.Add(l[len(l)-1-i], back)
		}
		one := cell.Of(mark(250))
		plus := cell.Add(all, one)
		minus := cell.Sub(all, one)
		for _, c := range l {
			plus, minus = cell.Sub(plus, c), cell.Sub(minus, c)
		}
		if all != back || plus != one || cell.Pure(plus) != 1 || cell.Pure(minus) != -1 || minus.Mark != mark(250) {
			t.Fatal(l)
		}
	}
}
