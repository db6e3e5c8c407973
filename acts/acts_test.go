package acts_test

import (
	"math/rand"
	"slices"
	"strings"
	"testing"

	"gleanings/acts"
	"gleanings/api"
)

// samples: right events, with their lines.
func samples() map[string]api.Event {
	return map[string]api.Event{
		"put 0 6b 76 0":              {Kind: api.EvPut, Key: "k", Value: []byte("v")},
		"put 1048576 . . 7":          {Kind: api.EvPut, A: 1 << 20, N: 7},
		"delete 3 00ff 9":            {Kind: api.EvDelete, A: 3, Key: "\x00\xff", N: 9},
		"get 2 6b":                   {Kind: api.EvGet, A: 2, Key: "k"},
		"sync 1 2":                   {Kind: api.EvSync, A: 1, B: 2},
		"next 4":                     {Kind: api.EvNext, A: 4},
		"deliver 5":                  {Kind: api.EvDeliver, N: 5},
		"lose 6":                     {Kind: api.EvLose, N: 6},
		"double 0":                   {Kind: api.EvDouble},
		"turn 1 2 ff":                {Kind: api.EvTurn, N: 1, B: 2, X: 255},
		"turn 1 2 00":                {Kind: api.EvTurn, N: 1, B: 2},
		"tick 1000":                  {Kind: api.EvTick, N: 1000},
		"crash 7":                    {Kind: api.EvCrash, A: 7},
		"get 0 " + long(24):          {Kind: api.EvGet, Key: strings.Repeat("k", 24)},
		"put 0 . " + long(64) + " 0": {Kind: api.EvPut, Value: []byte(strings.Repeat("k", 64))},
	}
}

// long word of so many bytes.
func long(n int) string { return strings.Repeat("6b", n) }

// P32.1: right events, their lines, and back.
func TestLines(t *testing.T) {
	for line, e := range samples() {
		if !acts.Right(e) || acts.Line(e) != line {
			t.Errorf("%q: %q", line, acts.Line(e))
		}
		if got, ok := acts.Parse(line); !ok || !acts.Same(got, e) {
			t.Errorf("%q: %v", line, got)
		}
	}
}

// P32.1: events that aren't right.
func TestWrongEvents(t *testing.T) {
	fields := []func(e *api.Event){
		func(e *api.Event) { e.A++ }, func(e *api.Event) { e.B++ }, func(e *api.Event) { e.N++ }, func(e *api.Event) { e.Key += "x" }, func(e *api.Event) { e.Value = []byte("x") }, func(e *api.Event) { e.X++ },
	}
	has := []string{"AKVN", "AKN", "AK", "AB", "A", "N", "N", "N", "NBX", "N", "A"}
	for kind, own := range has {
		for i, change := range fields {
			e := api.Event{Kind: kind}
			change(&e)
			if want := strings.Contains(own, "ABNKVX"[i:i+1]); acts.Right(e) != want || (acts.Line(e) != "") != want || acts.Same(e, api.Event{Kind: kind}) {
				t.Error(kind, i)
			}
		}
	}
	for i, e := range []api.Event{{Kind: -1}, {Kind: 11}, {Kind: api.EvTick, N: -1}, {Kind: api.EvTick, N: 1<<20 + 1}, {Kind: api.EvSync, A: -1}, {Kind: api.EvSync, B: 1<<20 + 1}, {Kind: api.EvGet, Key: strings.Repeat("k", 25)}, {Kind: api.EvPut, Value: make([]byte, 65)}} {
		if acts.Right(e) || acts.Line(e) != "" || acts.Script([]api.Event{e}) != "" || !acts.Same(e, e) {
			t.Error(i, e)
		}
	}
	if !acts.Same(api.Event{}, api.Event{Value: []byte{}}) {
		t.Error("same")
	}
}

// P32.1: lines that are no event's.
func TestWrongLines(t *testing.T) {
	for _, s := range []string{"", " ", "put", "put 0 6b 76", "put 0 6b 76 0 0", "put  0 6b 76 0", " put 0 6b 76 0", "put 0 6b 76 0 ", "Put 0 6b 76 0", "put 00 6b 76 0", "put -1 6b 76 0", "put +0 6b 76 0", "put 1048577 6b 76 0", "put 0 6B 76 0", "put 0 6 76 0",
		"put 0 6b  0", "put 0 6b .. 0", "get 0 " + long(25), "put 0 . " + long(65) + " 0", "turn 1 2 f", "turn 1 2 .", "turn 1 2 0f0f", "turn 1 2 FF", "tick", "tick x", "tick 1\n", "#tick 1", "sync 1", "crash 0x1", "tick 99999999999999999999", "get 0 6b\t"} {
		if e, ok := acts.Parse(s); ok || !acts.Same(e, api.Event{}) {
			t.Errorf("%q: %v", s, e)
		}
	}
}

// P32.2: scripts, their lines, and errors.
func TestScripts(t *testing.T) {
	l := []api.Event{{Kind: api.EvTick, N: 3}, {Kind: api.EvGet, Key: "k"}}
	if got := acts.Script(l); got != "tick 3\nget 0 6b\n" || acts.Script(nil) != "" {
		t.Errorf("%q", got)
	}
	if acts.Script(append(l, api.Event{Kind: 77})) != "" || acts.Script(make([]api.Event, 1001)) != "" || strings.Count(acts.Script(make([]api.Event, 1000)), "\n") != 1000 {
		t.Error("scripts")
	}
	text := "# a remark\n\ntick 3\n#\n x\nget 0 6b"
	seq := acts.Lines(text)
	for range 2 {
		var numbers []int
		var lines []string
		for n, line := range seq {
			numbers, lines = append(numbers, n), append(lines, line)
		}
		if !slices.Equal(numbers, []int{3, 5, 6}) || !slices.Equal(lines, []string{"tick 3", " x", "get 0 6b"}) {
			t.Error(numbers, lines)
		}
	}
	for n := range seq {
		if n != 3 {
			t.Error("goes on")
		}
		break
	}
	for _, c := range []struct {
		s    string
		want int
		n    int
		err  api.Errno
	}{
		{"", 0, 0, api.OK}, {"\n\n#\n", 0, 0, api.OK}, {"tick 3", 1, 0, api.OK}, {"tick 3\n", 1, 0, api.OK}, {text, 0, 5, api.ErrForm}, {"tick 3\n# x\ntock\nbad", 0, 3, api.ErrForm}, {"tick 3\r\n", 0, 1, api.ErrForm},
		{strings.Repeat("\n", 1000), 0, 0, api.OK}, {strings.Repeat("\n", 1001), 0, 0, api.ErrLong}, {strings.Repeat("\n", 1000) + "x", 0, 0, api.ErrLong}, {"bad" + strings.Repeat("\n", 1001), 0, 0, api.ErrLong}, {strings.Repeat("tick 1\n", 1000), 1000, 0, api.OK},
		{strings.Repeat("\n", 999) + "x", 0, 1000, api.ErrForm},
	} {
		l, n, err := acts.Read(c.s)
		if len(l) != c.want || n != c.n || err != c.err {
			t.Errorf("%.20q: %d %d %v", c.s, len(l), n, err)
		}
	}
	many := 0
	for range acts.Lines(strings.Repeat("x\n", 1500)) {
		many++
	}
	if many != 1500 {
		t.Error(many)
	}
}

// P32.3: what is told is read.
func TestThereAndBack(t *testing.T) {
	r := rand.New(rand.NewSource(41))
	var all []api.Event
	for _, e := range samples() {
		all = append(all, e)
	}
	for range 200 {
		var l []api.Event
		for range r.Intn(50) {
			l = append(l, all[r.Intn(len(all))])
		}
		got, n, err := acts.Read(acts.Script(l))
		if err != api.OK || n != 0 || !slices.EqualFunc(got, l, acts.Same) {
			t.Fatal(n, err)
		}
	}
}
