package ledger_test

import (
	"math"
	"math/rand"
	"slices"
	"testing"

	"gleanings/api"
	"gleanings/ledger"
)

const most = math.MaxUint64

// P22.1: what is sent, rows, totals, payloads, sums.
func TestLedger(t *testing.T) {
	l := ledger.New()
	if l.Total() != (api.Row{}) || l.Payload() != 0 || l.Text() != "-" {
		t.Error("new")
	}
	if !l.Sent(1, 30) || !l.Sent(1, 12) || l.Text() != "1 2 42" {
		t.Error(l.Text())
	}
	for _, kind := range []int{-1, 0, 15} {
		if l.Sent(kind, 1) || l.With(kind, api.Row{Frames: 1}) || l.Row(kind) != (api.Row{}) {
			t.Error("kind", kind)
		}
	}
	if l.Sent(1, -1) || l.Text() != "1 2 42" {
		t.Error("below 0")
	}
	if !l.Sent(10, 5) || !l.Sent(11, 7) || !l.Sent(14, 0) || !l.With(13, api.Row{Bytes: 9}) || l.Payload() != 12 {
		t.Error("payload")
	}
	if l.Total() != (api.Row{Frames: 5, Bytes: 63}) || l.Row(14) != (api.Row{Frames: 1}) || l.Text() != "1 2 42, 10 1 5, 11 1 7, 13 0 9, 14 1 0" {
		t.Error(l.Total(), l.Text())
	}
	c := l.Clone()
	c.Sent(2, 4)
	l.With(1, api.Row{})
	if l.Row(2) != (api.Row{}) || c.Row(1) != (api.Row{Frames: 2, Bytes: 42}) {
		t.Error("clone isn't apart")
	}
	l.Add(c)
	l.Add(nil)
	if l.Text() != "1 2 42, 2 1 4, 10 2 10, 11 2 14, 13 0 18, 14 2 0" || c.Row(10).Frames != 1 {
		t.Error(l.Text())
	}
	c.Add(c)
	if c.Text() != "1 4 84, 2 2 8, 10 2 10, 11 2 14, 13 0 18, 14 2 0" {
		t.Error(c.Text())
	}
}

// P22.1, P22.3: numbers stay at the greatest one.
func TestMost(t *testing.T) {
	l := ledger.New()
	l.With(10, api.Row{Frames: most, Bytes: most - 5})
	l.Sent(10, 5)
	if l.Row(10) != (api.Row{Frames: most, Bytes: most}) {
		t.Error(l.Row(10))
	}
	l.Sent(10, 1)
	l.With(11, api.Row{Frames: 1, Bytes: 1})
	if l.Row(10).Bytes != most || l.Payload() != most || l.Total() != (api.Row{Frames: most, Bytes: most}) {
		t.Error(l.Payload(), l.Total())
	}
	o := ledger.New()
	o.With(10, api.Row{Frames: 3, Bytes: 3})
	o.Add(l)
	if o.Row(10) != (api.Row{Frames: most, Bytes: most}) || o.Row(11).Bytes != 1 || o.Text() != "10 18446744073709551615 18446744073709551615, 11 1 1" {
		t.Error(o.Text())
	}
}

// P22.2: rows, as they were when it was asked.
func TestRows(t *testing.T) {
	l := ledger.New()
	l.Sent(3, 1)
	l.With(5, api.Row{Bytes: 2})
	l.Sent(9, 3)
	seq := l.Rows()
	l.Sent(1, 1)
	l.With(5, api.Row{})
	for range 2 {
		var kinds []int
		for kind := range seq {
			kinds = append(kinds, kind)
		}
		if !slices.Equal(kinds, []int{3, 5, 9}) {
			t.Error(kinds)
		}
	}
	for kind, r := range seq {
		if kind != 3 || r != (api.Row{Frames: 1, Bytes: 1}) {
			t.Error(kind, r)
		}
		break
	}
}

// P22.3: the total is the sum of what was sent, and no number falls.
func TestSum(t *testing.T) {
	r := rand.New(rand.NewSource(33))
	l, all := ledger.New(), api.Row{}
	for range 500 {
		before := l.Total()
		kind, n := r.Intn(16), r.Intn(100)-5
		if l.Sent(kind, n) {
			all.Frames++
			all.Bytes += uint64(n)
		}
		if got := l.Total(); got != all || got.Bytes < before.Bytes {
			t.Fatal(got, all)
		}
	}
}

// P22.1, P22.2: a nil ledger.
func TestNil(t *testing.T) {
	var l *ledger.Ledger
	l.Add(ledger.New())
	full := ledger.New()
	full.Sent(1, 1)
	l.Add(full)
	if l.Sent(1, 1) || l.With(1, api.Row{}) || l.Row(1) != (api.Row{}) || l.Total() != (api.Row{}) || l.Payload() != 0 || l.Clone() != nil || l.Text() != "-" {
		t.Error("nil")
	}
	for range l.Rows() {
		t.Error("nil has rows")
	}
}
