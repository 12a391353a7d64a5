// Package twin makes copies of what is handed about that share no memory with it.
package twin

import (
	"slices"

	"trireme/api"
)

// Texts gives the same texts.
func Texts(list [][]byte) [][]byte {
	var same [][]byte
	for _, b := range list {
		same = append(same, slices.Clone(b))
	}
	return same
}

// Pair gives the same pair.
func Pair(p api.Pair) api.Pair {
	return api.Pair{Key: slices.Clone(p.Key), Value: slices.Clone(p.Value)}
}

// Pairs gives the same pairs.
func Pairs(list []api.Pair) []api.Pair {
	var same []api.Pair
	for _, p := range list {
		same = append(same, Pair(p))
	}
	return same
}

// Bag gives the same blocks.
func Bag(bag api.Bag) api.Bag {
	same := make(api.Bag, len(bag))
	for h, block := range bag {
		same[h] = slices.Clone(block)
	}
	return same
}

// Op gives the same operation.
func Op(o api.Op) api.Op {
	o.Data = slices.Clone(o.Data)
	return o
}

// Call gives the same call.
func Call(c api.Call) api.Call {
	c.Op = Op(c.Op)
	return c
}

// Answer gives the same answer.
func Answer(a api.Answer) api.Answer {
	a.Data = slices.Clone(a.Data)
	a.Names = slices.Clone(a.Names)
	return a
}

// State gives the same state.
func State(s api.State) api.State {
	same := api.State{Files: Pairs(s.Files)}
	for _, snap := range s.Snaps {
		snap.Files = Pairs(snap.Files)
		same.Snaps = append(same.Snaps, snap)
	}
	return same
}

// Seats gives the same seats.
func Seats(list []api.Seat) []api.Seat {
	var same []api.Seat
	for _, seat := range list {
		seat.Answer = Answer(seat.Answer)
		same = append(same, seat)
	}
	return same
}

// Message gives the same message.
func Message(m api.Message) api.Message {
	m.Call = Call(m.Call)
	m.Answer = Answer(m.Answer)
	m.Hashes = slices.Clone(m.Hashes)
	m.Blocks = Texts(m.Blocks)
	return m
}
