package copies_test

import (
	"testing"

	"gleanings/api"
	"gleanings/copies"
	"gleanings/ver"
)

func TestCopiesAreApart(t *testing.T) {
	l := []api.Item{{Key: "k", Past: api.Clock{{Node: 1, From: 2, To: 3}}, Value: []byte("v")}}
	got := copies.Items(l)
	if len(got) != 1 || !ver.Same(got[0], l[0]) || copies.Items(nil) != nil {
		t.Error(got)
	}
	got[0].Past[0].To, got[0].Value[0], got[0].Key = 9, 'x', "x"
	if l[0].Past[0].To != 3 || l[0].Value[0] != 'v' || l[0].Key != "k" {
		t.Error("items are shared")
	}
	b := [][]byte{[]byte("a"), nil}
	c := copies.Values(b)
	if len(c) != 2 || string(c[0]) != "a" || len(c[1]) != 0 {
		t.Error(c)
	}
	if c[0][0] = 'x'; b[0][0] != 'a' {
		t.Error("values are shared")
	}
}
