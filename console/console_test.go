package console_test

import (
	"bytes"
	"math/rand"
	"strings"
	"testing"

	"gleanings/acts"
	"gleanings/api"
	"gleanings/console"
	"gleanings/realm"
	"gleanings/report"
	"gleanings/resolve"
	"gleanings/watch"
)

// told: are these the answers to these lines?
func told(t *testing.T, c *console.Console, pairs ...string) {
	t.Helper()
	for i := 0; i < len(pairs); i += 2 {
		if got := c.Do(pairs[i]); got != pairs[i+1] {
			t.Errorf("%q: %q, not %q", pairs[i], got, pairs[i+1])
		}
	}
}

// P37.1: the chapter's example.
func TestExample(t *testing.T) {
	told(t, console.New(), "new 2 9 5 1 1 50", "ok", "put 0 6b 76 0", "ok 6b 0:1 [-] 76", "settle 1", "yes", "get 1 6b", "ok 76 [0:1]")
}

// P37.1: without a realm, and new ones.
func TestNew(t *testing.T) {
	c := console.New()
	if c.Realm() != nil {
		t.Error("a realm")
	}
	told(t, c, "", "", "#", "", "# new", "", "put 0 6b 76 0", "error 24", "quiet", "error 24", "store 0", "error 24", "same", "error 24", "verdict", "error 24",
		"new 1 9 5 1 1 50", "error 2", "new 2 257 5 1 1 50", "error 2", "new 2 9 0 1 1 50", "error 2", "met", "error 24", "new 3 9 5 1 1 1048576", "ok")
	r := c.Realm()
	if r.Nodes() != 3 || r.Node(0).Store().Most() != 9 {
		t.Error("new")
	}
	told(t, c, "new 1 9 5 1 1 50", "error 2", "new", "error 11", "new 2 9 5 1 1", "error 11", "new 2 9 5 1 1 50 1", "error 11", "new 2 9 5 1 1 1048577", "error 11", "new 02 9 5 1 1 50", "error 11", "new 2 9 5 1 1 x", "error 11", "new 2 9 5 1 -1 50", "error 11")
	if c.Realm() != r {
		t.Error("another realm beside an error")
	}
	told(t, c, "new 2 9 5 1 1 50", "ok")
	if c.Realm() == r || c.Realm().Nodes() != 2 {
		t.Error("new again")
	}
}

// P37.1: lines of no form are told so ahead of a realm that there isn't; lines of a form are not looked at any further.
func TestFormsWithoutRealm(t *testing.T) {
	c := console.New()
	for _, line := range formed {
		told(t, c, line, "error 24")
	}
	for _, line := range formless {
		told(t, c, line, "error 11")
	}
	told(t, c, "", "", "#", "", "#put", "", "new", "error 11", "new 2 9 5 1 1 1048577", "error 11")
	if c.Realm() != nil {
		t.Error("a realm")
	}
	told(t, c, "new 2 9 5 1 1 50", "ok")
	for _, line := range formless {
		told(t, c, line, "error 11")
	}
	for _, line := range formed {
		if got := c.Do(line); got == "error 11" || got == "error 24" {
			t.Errorf("%q: %q", line, got)
		}
	}
	if got := console.New().Run("same\n\n#\nnone\nstore 9\nstore\n"); got != "error 24\nerror 11\nerror 24\nerror 11\n" {
		t.Errorf("%q", got)
	}
}

// formed lines, at least one of each row of the table but new; nodes and keys that there aren't don't take a line's form.
var formed = []string{
	"put 0 6b 76 0", "put 9 . . 1048576", "delete 0 6b 0", "get 0 6b", "sync 0 1", "next 9", "deliver 0", "lose 9", "double 9", "turn 9 0 01", "tick 1", "crash 1",
	"quiet", "settle 0", "settle 1048576", "store 0", "store 1048576", "ledger 0", "ledger 9", "torn 0", "torn 9", "holds 0", "holds 9",
	"resolve 9 6b 0", "resolve 0 . 5", "resolve 9 " + strings.Repeat("6b", 24) + " 5", "report", "closed", "verdict", "same", "met",
}

// formless lines: wrong names, too few and too many words, numbers and bytes that are none, or too great.
var formless = []string{
	" ", "none", "None", "2", "New", "NEW 2 9 5 1 1 50", " new 2 9 5 1 1 50", " #", "same ", " same", "same\n", "Same", "same same", "same same same", "same 0", "met 0", "quiet 0", "report 0", "closed 0", "verdict 0",
	"settle", "settle x", "settle 01", "settle +1", "settle -1", "settle 1048577", "settle 18446744073709551616", "settle  1", "settle 1 1",
	"store", "store ", "store -1", "store 1048577", "Store 0", "store 0 0", "ledger", "ledger x", "ledger 1048577", "torn", "torn 00", "torn 0 0", "holds", "holds 0x0", "holds 1048577",
	"resolve", "resolve 0", "resolve 0 6b", "resolve 0 6b 6", "resolve 0 6b -1", "resolve 0 6b 00", "resolve 0 6b 0 0", "resolve 0 zz 0", "resolve 0 6B 0", "resolve 0 6 0", "resolve 0  0", "resolve x 6b 0", "resolve 1048577 6b 0", "resolve 0 " + strings.Repeat("6b", 25) + " 0", "none 0 6b 0",
	"put", "put 0 6b 76", "put 0 6b 76 0 0", "put 1048577 6b 76 0", "put 0 6b 76 1048577", "put 0 " + strings.Repeat("6b", 25) + " 76 0", "put 0 6b " + strings.Repeat("76", 65) + " 0",
	"delete 0 6b", "get 0", "get 0 zz", "sync 0", "sync 0 1 2", "next", "next x", "deliver", "lose -1", "double 1048577", "turn 0 0", "turn 0 0 0", "turn 0 0 .", "tick", "tick 1048577", "crash", "crash 1 1", "tock 1",
}

// P37.1: each line.
func TestLines(t *testing.T) {
	c := console.New()
	told(t, c, "new 2 9 5 1 1 50", "ok", "deliver 0", "no", "lose 3", "no", "get 0 6b", "error 23", "torn 0", "none", "store 0", "", "ledger 1", "-", "closed", "",
		"put 0 6b 31 0", "ok 6b 0:1 [-] 31", "put 0 6b 32 0", "ok 6b 0:2 [-] 32", "put 0 6a . 0", "ok 6a 0:1 [-] .", "put 0 6a 33 0", "ok 6a 0:2 [-] 33", "torn 0", "6a:2 6b:2", "torn 1", "none", "torn 2", "error 2",
		"store 0", "6a [0:1-2] .,33\n6b [0:1-2] 31,32", "store 2", "error 2", "ledger 2", "error 2", "holds 2", "error 2", "holds 0", "yes", "same", "no", "met", "no",
		"resolve 0 6b 5", "ok 6b 0:3 [0:1-2] 33", "holds 0", "no", "tick 0", "ok", "holds 0", "yes", "resolve 0 6b 0", "error 24", "resolve 0 7a 0", "error 23", "resolve 0 . 0", "error 2", "resolve 2 6b 0", "error 2", "resolve 0 6a 4", "ok 6a 0:3 [0:1-2] 2c33",
		"resolve 0 6b 6", "error 11", "resolve 0 6B 0", "error 11", "resolve 0 6b", "error 11", "resolve 0 6b 0 0", "error 11", "resolve x 6b 0", "error 11", "resolve 0 "+strings.Repeat("6b", 25)+" 0", "error 11", "resolve 1048577 6b 0", "error 11",
		"sync 0 0", "error 2", "sync 0 1", "ok", "sync 0 1", "error 24", "ledger 0", "1 1 29", "report", "time 0 flying 1 said 29\nnode 0: 2 2 1 0\nnode 1: 0 0 0 0",
	)
	told(t, c, "quiet", "ok 24", "quiet", "ok 0", "same", "yes", "settle 0", "yes", "settle 1", "yes", "get 1 6b", "ok 33 [0:1-3]", "delete 1 6b 0", "ok 6b 1:1 [0:1-3] gone", "get 1 6b", "ok gone [0:1-3 1:1]")
	told(t, c, "verdict", watch.Text(watch.Verdict(c.Realm())), "closed", strings.TrimSuffix(report.Closed(c.Realm().Closed()), "\n"), "report", strings.TrimSuffix(report.Realm(c.Realm()), "\n"))
	for _, s := range []string{" ", "bad", "quiet ", " quiet", "quiet 1", "settle", "settle x", "settle 01", "settle 1048577", "store", "store -1", "store 1048577", "Store 0", "torn 0 0", "tock 1", "put 0 6b 76", "put 0 6b 76 1048577", "report 0", "same 1", "closed\n", "turn 0 0 0", "put  0 6b 76 0"} {
		told(t, c, s, "error 11")
	}
	told(t, c, "put 0 6b 76 0 #", "error 11", "settle 1048576", "yes", "crash 1", "ok", "next 0", "ok", "turn 0 0 01", "ok", "double 0", "ok", "deliver 0", "ok", "turn 0 999 01", "no")
}

// P37.1: resolved keys are torn no more.
func TestResolve(t *testing.T) {
	c := console.New()
	told(t, c, "new 2 9 5 1 1 50", "ok", "put 0 6b 31 0", "ok 6b 0:1 [-] 31", "put 1 6b 32 0", "ok 6b 1:1 [-] 32", "settle 1", "yes", "torn 1", "6b:2")
	for way := range 6 {
		if _, ok := resolve.Value([][]byte{{1}}, way); !ok {
			t.Error(way)
		}
	}
	told(t, c, "resolve 1 6b 1", "ok 6b 1:2 [0:1 1:1] 32", "settle 1", "yes", "torn 0", "none", "get 0 6b", "ok 32 [0:1 1:1-2]")
}

// P37.1: runs of texts.
func TestRun(t *testing.T) {
	c := console.New()
	if got := c.Run("# two\nnew 2 9 5 1 1 50\n\nput 0 6b 76 0\nstore 1\nbad\nget 0 6b"); got != "ok\nok 6b 0:1 [-] 76\nerror 11\nok 76 [0:1]\n" {
		t.Errorf("%q", got)
	}
	if got := c.Run(strings.Repeat("tick 0\n", 1001)); got != "error 12\n" {
		t.Errorf("%q", got)
	}
	if got := c.Run(strings.Repeat("\n", 1000) + "x"); got != "error 12\n" {
		t.Errorf("%q", got)
	}
	if got := c.Run(strings.Repeat("tick 1\n", 1000)); got != strings.Repeat("ok\n", 1000) || c.Realm().Now() != 1000 {
		t.Error(c.Realm().Now())
	}
	if got := c.Run(""); got != "" {
		t.Errorf("%q", got)
	}
	var none *console.Console
	if none.Do("") != "error 1" || none.Do("new 2 9 5 1 1 50") != "error 1" || none.Run("") != "error 1\n" || none.Run(strings.Repeat("\n", 2000)) != "error 1\n" || none.Realm() != nil {
		t.Error("nil")
	}
}

// P37.2: a script of events does what the realm's Run does.
func TestScripts(t *testing.T) {
	rnd := rand.New(rand.NewSource(45))
	kinds := []string{"AKVN", "AKN", "AK", "AB", "A", "N", "N", "N", "NBX", "N", "A"}
	for range 20 {
		var l []api.Event
		for range 300 {
			e := api.Event{Kind: rnd.Intn(11)}
			if rnd.Intn(2) == 0 {
				e.Kind = api.EvDeliver
			}
			for _, field := range kinds[e.Kind] {
				switch field {
				case 'A':
					e.A = rnd.Intn(4)
				case 'B':
					e.B = rnd.Intn(4)
				case 'N':
					e.N = rnd.Intn(5)
				case 'K':
					e.Key = string(rune('a' + rnd.Intn(4)))
				case 'V':
					e.Value = []byte{byte(rnd.Intn(9))}
				case 'X':
					e.X = byte(rnd.Intn(2))
				}
			}
			l = append(l, e)
		}
		c := console.New()
		told(t, c, "new 3 9 5 1 1 50", "ok")
		r, _ := realm.New(3, 9, api.Plan{Every: 5, Tries: 1, Rounds: 1, Idle: 50})
		answers := c.Run(acts.Script(l))
		happened := r.Run(l...)
		if strings.Count(answers, "\n") != len(l) || strings.Count("\n"+answers, "\nno\n") > len(l)-happened || report.Realm(r) != report.Realm(c.Realm()) || report.Closed(r.Closed()) != report.Closed(c.Realm().Closed()) {
			t.Fatal("unlike")
		}
		for i := range 3 {
			if !bytes.Equal(r.Node(i).Store().Bytes(), c.Realm().Node(i).Store().Bytes()) {
				t.Fatal("unlike stores")
			}
		}
	}
}
