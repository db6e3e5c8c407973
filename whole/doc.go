// Package whole has no code: its tests hold the promises of all layers together.
package whole
