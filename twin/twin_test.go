package twin

import (
	"reflect"
	"testing"

	"trireme/api"
)

func pairs() []api.Pair {
	return []api.Pair{{Key: []byte("k"), Value: []byte("v")}, {Key: []byte("l"), Value: []byte("w")}}
}

func whole() api.Whole {
	return api.Whole{
		State: api.State{Files: pairs(), Snaps: []api.Snap{{Name: "s", Gen: 4, Files: pairs()}}},
		Seats: []api.Seat{{Client: 1, Number: 2, Answer: answer()}},
	}
}

func answer() api.Answer {
	return api.Answer{Code: 1, N: 2, Data: []byte("d"), Names: []string{"n"}}
}

func message() api.Message {
	return api.Message{
		Kind: 1, From: 2, To: 3, View: 4, Normal: 5, Gen: 6, Commit: 7, Head: api.Hash{8},
		Call:   api.Call{Client: 1, Number: 9, Op: api.Op{Kind: 1, Path: "p", To: "t", Off: 1, N: 2, Data: []byte("d")}},
		Answer: answer(), Hashes: []api.Hash{{1}}, Blocks: [][]byte{[]byte("b"), []byte("c")},
	}
}

// TestSame: a twin is equal, and writing over the first one leaves it as it is.
func TestSame(t *testing.T) {
	w := whole()
	same := api.Whole{State: State(w.State), Seats: Seats(w.Seats)}
	w.Files[0].Key[0], w.Files[1] = '!', api.Pair{}
	w.Snaps[0].Files[0].Value[0] = '!'
	w.Snaps[0].Name = "!"
	w.Seats[0].Answer.Data[0], w.Seats[0].Answer.Names[0] = '!', "!"
	if !reflect.DeepEqual(same, whole()) {
		t.Errorf("%v", same)
	}
	m := message()
	again := Message(m)
	m.Call.Op.Data[0], m.Answer.Data[0], m.Answer.Names[0] = '!', '!', "!"
	m.Hashes[0], m.Blocks[0][0], m.Blocks[1] = api.Hash{}, '!', nil
	if !reflect.DeepEqual(again, message()) {
		t.Errorf("%v", again)
	}
	bag := api.Bag{{1}: []byte("b")}
	twin := Bag(bag)
	bag[api.Hash{1}][0] = '!'
	bag[api.Hash{2}] = nil
	if !reflect.DeepEqual(twin, api.Bag{{1}: []byte("b")}) {
		t.Errorf("%v", twin)
	}
}
