// Package copies makes new memory of lists whose parts have memory of their own.
package copies

import (
	"bytes"

	"gleanings/api"
	"gleanings/ver"
)

// Items of a list.
func Items(l []api.Item) []api.Item {
	var all []api.Item
	for _, x := range l {
		all = append(all, ver.Clone(x))
	}
	return all
}

// Values of a list.
func Values(l [][]byte) [][]byte {
	var all [][]byte
	for _, b := range l {
		all = append(all, bytes.Clone(b))
	}
	return all
}
