package report_test

import (
	"math"
	"slices"
	"testing"

	"gleanings/api"
	"gleanings/dot"
	"gleanings/msg"
	"gleanings/realm"
	"gleanings/report"
	"gleanings/store"
	"gleanings/ver"
)

var plan = api.Plan{Every: 3, Tries: 1, Rounds: 1, Idle: 20}

func fresh(t *testing.T, n int) *realm.Realm {
	r, err := realm.New(n, 9, plan)
	if err != api.OK {
		t.Fatal(err)
	}
	return r
}

func put(a int, key, value string) api.Event {
	return api.Event{Kind: api.EvPut, A: a, Key: key, Value: []byte(value)}
}

func clock(s string) api.Clock {
	c, _ := dot.Parse(s)
	return c
}

// P36.1: stores' reports.
func TestStore(t *testing.T) {
	s, _ := store.New(0, 9)
	if report.Store(s) != "" || report.Store(nil) != "" {
		t.Error("empty")
	}
	s.Put("k", nil, []byte("v"))
	if got := report.Store(s); got != "6b [0:1] 76\n" {
		t.Errorf("%q", got)
	}
	s.Put("k", nil, nil)
	s.Put("k", nil, []byte("w"))
	s.Delete("k", clock("0:3"))
	s.Put("a\x00", nil, []byte("x"))
	s.Delete("a\x00", clock("0:1"))
	if got := report.Store(s); got != "6100 [0:1-2] gone\n6b [0:1-4] 76,.\n" {
		t.Errorf("%q", got)
	}
}

// P36.1: what has closed.
func TestClosed(t *testing.T) {
	a := api.Close{Node: 1, End: api.End{Sid: 137438953473, Peer: 2, Led: true, State: api.Well, Took: 5}}
	b := api.Close{Node: 2, End: api.End{Sid: 7, Peer: 0, State: api.Over, Why: 26, Took: 1}}
	c := api.Close{Node: -1, End: api.End{Sid: math.MinInt, Peer: -2, State: 77, Why: -3, Took: -4}}
	if report.Close(a) != "1 137438953473 2 led well 0 5\n" || report.Close(b) != "2 7 0 followed over 26 1\n" || report.Close(c) != "0 0 0 followed over 0 0\n" {
		t.Errorf("%q %q %q", report.Close(a), report.Close(b), report.Close(c))
	}
	if got := report.Closed([]api.Close{a, b}); got != report.Close(a)+report.Close(b) || report.Closed(nil) != "" {
		t.Errorf("%q", got)
	}
}

// P36.1: answers.
func TestAnswer(t *testing.T) {
	x, _ := ver.Parse("6b 0:1 [-] 76")
	for i, c := range []struct {
		kind int
		a    api.Answer
		want string
	}{
		{api.EvPut, api.Answer{Item: x}, "ok 6b 0:1 [-] 76"}, {api.EvDelete, api.Answer{Item: x}, "ok 6b 0:1 [-] 76"}, {api.EvPut, api.Answer{Err: api.ErrFull, Item: x}, "error 20"}, {api.EvSync, api.Answer{Err: -7}, "error -7"},
		{api.EvGet, api.Answer{Values: [][]byte{[]byte("v"), nil}, Clock: clock("0:1-3 2:1")}, "ok 76,. [0:1-3 2:1]"}, {api.EvGet, api.Answer{Clock: clock("0:1")}, "ok gone [0:1]"}, {api.EvGet, api.Answer{}, "ok gone [-]"},
		{api.EvGet, api.Answer{Err: api.ErrNone}, "error 23"}, {api.EvSync, api.Answer{}, "ok"}, {api.EvTick, api.Answer{Item: x}, "ok"}, {99, api.Answer{}, "ok"},
	} {
		if got := report.Answer(c.kind, c.a); got != c.want {
			t.Errorf("%d: %q", i, got)
		}
	}
}

// P36.2: realms' reports.
func TestRealm(t *testing.T) {
	r := fresh(t, 2)
	if got := report.Realm(r); got != "time 0 flying 0 said 0\nnode 0: 0 0 0 0\nnode 1: 0 0 0 0\nsame\n" || report.Realm(nil) != "" {
		t.Errorf("%q", got)
	}
	r.Run(put(0, "k", "v"), put(0, "k", "w"), put(0, "l", ""), api.Event{Kind: api.EvTick, N: 7}, api.Event{Kind: api.EvSync, A: 0, B: 1})
	if got := report.Realm(r); got != "time 7 flying 1 said 29\nnode 0: 2 3 1 0\nnode 1: 0 0 0 0\n" {
		t.Errorf("%q", got)
	}
	// Another Hello, of the same length, that nobody said.
	forged := msg.Put(api.Msg{Kind: api.Hello, Sid: 1, N: 9})
	for _, m := range r.Mails() {
		for i, x := range m.Bytes {
			r.Step(api.Event{Kind: api.EvTurn, B: i, X: x ^ forged[i]})
		}
	}
	// Its answer is turned so that it is none.
	r.Run(api.Event{Kind: api.EvDeliver}, api.Event{Kind: api.EvTurn, B: 0, X: 1}, api.Event{Kind: api.EvDeliver})
	if got := report.Realm(r); got != "time 7 flying 0 said 58\nnode 0: 2 3 1 1\nnode 1: 0 0 0 0\nmet\n" {
		t.Errorf("%q", got)
	}
	seq := report.Lines(r)
	r.Run(put(1, "z", "z"))
	for range 2 {
		var l []string
		for i, s := range seq {
			if i != len(l) {
				t.Error(i)
			}
			l = append(l, s)
		}
		if !slices.Equal(l, []string{"6b [0:1-2] 76,77\n6c [0:1] .\n", ""}) {
			t.Errorf("%q", l)
		}
	}
	for i := range seq {
		if i > 0 {
			t.Error("goes on")
		}
		break
	}
	for range report.Lines(nil) {
		t.Error("lines of nil")
	}
}

// P36.3: the same items, and the same events, have the same reports.
func TestSame(t *testing.T) {
	r, s := fresh(t, 3), fresh(t, 3)
	l := []api.Event{put(0, "k", "v"), put(1, "k", "w"), {Kind: api.EvSync, A: 0, B: 1}, {Kind: api.EvDeliver}, {Kind: api.EvDouble}, {Kind: api.EvDeliver}, {Kind: api.EvNext, A: 2}, {Kind: api.EvTick, N: 9}}
	r.Run(l...)
	s.Run(l...)
	if report.Realm(r) != report.Realm(s) || report.Closed(r.Closed()) != report.Closed(s.Closed()) {
		t.Error("unlike")
	}
	r.Settle(1)
	for _, text := range report.Lines(r) {
		if text != report.Store(r.Node(0).Store()) || text == "" {
			t.Errorf("%q", text)
		}
	}
}
