package timer_test

import (
	"math"
	"slices"
	"testing"

	"gleanings/api"
	"gleanings/timer"
)

func fresh(t *testing.T, every, tries int) *timer.Timer {
	x, err := timer.New(every, tries)
	if err != api.OK {
		t.Fatal(err)
	}
	return x
}

// P23.1: what a timer tells at each time.
func TestTimer(t *testing.T) {
	for _, c := range [][2]int{{0, 1}, {1001, 1}, {1, -1}, {1, 11}} {
		if x, err := timer.New(c[0], c[1]); x != nil || err != api.ErrArg {
			t.Error(c, err)
		}
	}
	x := fresh(t, 5, 2)
	if due, ok := x.Due(); ok || due != 0 || x.Fired() != 0 || x.Tick(1<<50) != 0 {
		t.Error("doesn't stand still")
	}
	x.Start(100)
	for _, c := range []struct {
		now, tick, due, fired int
		runs                  bool
	}{
		{99, 0, 105, 0, true}, {104, 0, 105, 0, true}, {107, 1, 117, 1, true}, {107, 0, 117, 1, true}, {117, 1, 137, 2, true}, {136, 0, 137, 2, true}, {140, 2, 0, 2, false}, {200, 0, 0, 2, false},
	} {
		if got := x.Tick(c.now); got != c.tick || x.Fired() != c.fired {
			t.Error(c, got, x.Fired())
		}
		if due, runs := x.Due(); due != c.due || runs != c.runs {
			t.Error(c, due, runs)
		}
	}
	x.Start(7)
	if due, ok := x.Due(); due != 12 || !ok || x.Fired() != 0 || x.Tick(12) != 1 {
		t.Error("started again", due)
	}
	x.Stop()
	if due, ok := x.Due(); ok || due != 0 || x.Tick(99) != 0 || x.Fired() != 1 {
		t.Error("stopped", due)
	}
	none := fresh(t, 1000, 0)
	none.Start(0)
	if none.Tick(999) != 0 || none.Tick(1000) != 2 || none.Fired() != 0 {
		t.Error("no tries")
	}
}

// P23.1: times are held to what may be.
func TestTimes(t *testing.T) {
	x := fresh(t, 10, 10)
	x.Start(math.MinInt)
	if due, _ := x.Due(); due != 10 || x.Tick(math.MinInt) != 0 {
		t.Error(due)
	}
	x.Start(math.MaxInt)
	if due, _ := x.Due(); due != 1<<60+10 || x.Tick(math.MaxInt) != 0 {
		t.Error(due)
	}
	x.Start(1<<60 - 10)
	if x.Tick(math.MaxInt) != 1 {
		t.Error("doesn't fire")
	}
	if due, _ := x.Due(); due != 1<<60+20 {
		t.Error(due)
	}
}

// P23.2: waits.
func TestWaits(t *testing.T) {
	seq := timer.Waits(5, 4)
	for range 2 {
		var l []int
		for i, w := range seq {
			if i != len(l) {
				t.Error(i)
			}
			l = append(l, w)
		}
		if !slices.Equal(l, []int{5, 10, 20, 40, 40}) {
			t.Error(l)
		}
	}
	for i := range seq {
		if i == 1 {
			break
		}
	}
	if timer.Longest(5, 4) != 115 || timer.Longest(3, 0) != 3 || timer.Longest(1000, 10) != 71000 {
		t.Error("longest")
	}
	for _, c := range [][2]int{{0, 1}, {1001, 1}, {1, -1}, {1, 11}} {
		for range timer.Waits(c[0], c[1]) {
			t.Error("waits of", c)
		}
		if timer.Longest(c[0], c[1]) != 0 {
			t.Error("longest of", c)
		}
	}
}

// P23.3: asked at each time it ends just Longest behind its start.
func TestEnds(t *testing.T) {
	for every := 1; every < 9; every++ {
		for tries := range 11 {
			x := fresh(t, every, tries)
			x.Start(50)
			now, fired := 50, 0
			for {
				got := x.Tick(now)
				if got == 2 {
					break
				}
				fired += got
				now++
			}
			if now-50 != timer.Longest(every, tries) || fired != tries || x.Fired() != tries {
				t.Error(every, tries, now, fired)
			}
		}
	}
}

// P23.1: a nil timer.
func TestNil(t *testing.T) {
	var x *timer.Timer
	x.Start(1)
	x.Stop()
	if due, ok := x.Due(); ok || due != 0 || x.Tick(9) != 0 || x.Fired() != 0 {
		t.Error("nil")
	}
}
