package peer_test

import (
	"math"
	"slices"
	"testing"

	"gleanings/peer"
)

func round(n int) [][2]int {
	var l [][2]int
	for node, p := range peer.Round(n) {
		l = append(l, [2]int{node, p})
	}
	return l
}

// P29.1: peers, turns, sessions.
func TestPeers(t *testing.T) {
	for n, want := range map[int]bool{-1: false, 0: false, 1: false, 2: true, 8: true, 9: false} {
		if peer.Fits(n) != want {
			t.Error(n)
		}
	}
	for _, c := range []struct {
		n, node, turn, want int
		ok                  bool
	}{
		{3, 0, 0, 1, true}, {3, 0, 1, 2, true}, {3, 0, 2, 1, true}, {3, 2, 1, 1, true}, {2, 1, 77, 0, true}, {8, 7, 6, 6, true}, {8, 0, math.MaxInt, 1 + math.MaxInt%7, true},
		{3, 0, -1, 0, false}, {3, 3, 0, 0, false}, {3, -1, 0, 0, false}, {1, 0, 0, 0, false}, {9, 0, 0, 0, false},
	} {
		if got, ok := peer.Peer(c.n, c.node, c.turn); got != c.want || ok != c.ok {
			t.Error(c, got, ok)
		}
	}
	for _, c := range []struct {
		n, node, peer, want int
		ok                  bool
	}{
		{3, 0, 1, 0, true}, {3, 1, 0, 1, true}, {8, 0, 7, 6, true}, {2, 1, 0, 0, true}, {3, 1, 1, 0, false}, {3, 0, 3, 0, false}, {3, 3, 0, 0, false}, {3, 0, -1, 0, false}, {1, 0, 0, 0, false}, {9, 0, 1, 0, false},
		{3, 0, math.MinInt, 0, false}, {3, math.MaxInt, 1, 0, false},
	} {
		if got, ok := peer.Turn(c.n, c.node, c.peer); got != c.want || ok != c.ok {
			t.Error(c, got, ok)
		}
	}
	for c, want := range map[[2]int]int{{3, 2}: 12, {2, 0}: 0, {2, -5}: 0, {8, 1}: 56, {8, 1 << 20}: 56 << 20, {8, math.MaxInt}: 56 << 20, {1, 3}: 0, {9, 3}: 0} {
		if got := peer.Sessions(c[0], c[1]); got != want {
			t.Error(c, got)
		}
	}
}

// P29.2: rounds.
func TestRound(t *testing.T) {
	if got := round(3); !slices.Equal(got, [][2]int{{0, 1}, {1, 2}, {2, 0}, {0, 2}, {1, 0}, {2, 1}}) {
		t.Error(got)
	}
	for _, n := range []int{-3, 0, 1, 9, math.MinInt, math.MaxInt} {
		if got := round(n); len(got) > 0 {
			t.Error(n, got)
		}
	}
	seq := peer.Round(4)
	for range 2 {
		i := 0
		for node := range seq {
			if node != i {
				t.Error(node)
			}
			if i++; i == 3 {
				break
			}
		}
	}
}

// P29.3: each with each other one, once; Peer and Turn undo one another.
func TestOnce(t *testing.T) {
	for n := 2; n < 9; n++ {
		met := map[[2]int]int{}
		for i, p := range round(n) {
			met[p]++
			if want, _ := peer.Peer(n, p[0], i/n); want != p[1] || p[0] == p[1] || i%n != p[0] {
				t.Error(n, i, p)
			}
			turn, ok := peer.Turn(n, p[0], p[1])
			back, _ := peer.Peer(n, p[0], turn)
			if !ok || back != p[1] || turn >= n-1 || turn != i/n {
				t.Error(n, p, turn)
			}
		}
		if len(met) != n*(n-1) || len(met) != peer.Sessions(n, 1) {
			t.Error(n, len(met))
		}
	}
}
