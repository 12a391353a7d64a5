// Package order has what all layers need to put texts and digests into their order.
package order

import (
	"bytes"
	"maps"
	"slices"

	"trireme/api"
)

// Hash compares two digests, byte by byte.
func Hash(a, b api.Hash) int { return bytes.Compare(a[:], b[:]) }

// Hashes gives the digests that are a map's keys, rising.
func Hashes[V any](m map[api.Hash]V) []api.Hash {
	return slices.SortedFunc(maps.Keys(m), Hash)
}

// Rise tells whether the texts of things rise.
func Rise[T any](things []T, text func(T) []byte) bool {
	for i := 1; i < len(things); i++ {
		if bytes.Compare(text(things[i-1]), text(things[i])) >= 0 {
			return false
		}
	}
	return true
}

// Keys tells whether the keys of pairs rise.
func Keys(pairs []api.Pair) bool {
	return Rise(pairs, func(p api.Pair) []byte { return p.Key })
}
