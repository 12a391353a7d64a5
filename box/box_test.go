package box

import (
	"reflect"
	"testing"

	"trireme/api"
)

func lay(t *testing.T, room int) *Box {
	t.Helper()
	b, e := New(room)
	if b == nil || e != api.OK {
		t.Fatal(e)
	}
	return b
}

func message(n int) api.Message {
	return api.Message{Kind: n, View: uint64(n), Call: api.Call{Op: api.Op{Data: []byte{byte(n)}}}, Answer: api.Answer{Data: []byte{byte(n)}, Names: []string{"n"}},
		Hashes: []api.Hash{{byte(n)}}, Blocks: [][]byte{{byte(n)}, {byte(n + 1)}}}
}

func same(a, b api.Message) bool { return reflect.DeepEqual(a, b) }

// P22.1
func TestNew(t *testing.T) {
	for _, n := range []int{-1 << 63, -1, 0, 4097, 1<<63 - 1} {
		if b, e := New(n); b != nil || e != api.ErrArg {
			t.Errorf("New(%d): %v", n, e)
		}
	}
	for _, n := range []int{1, 2, 4096} {
		b := lay(t, n)
		if b.Len() != 0 {
			t.Errorf("Len of a new one: %d", b.Len())
		}
		for i := range n {
			if e := b.Put(message(i)); e != api.OK || b.Len() != i+1 {
				t.Fatalf("room %d, Put %d: %v", n, i, e)
			}
		}
		for range 2 {
			if e := b.Put(message(77)); e != api.ErrBox || b.Len() != n {
				t.Errorf("room %d: %v, %d", n, e, b.Len())
			}
		}
		all := b.Drain()
		for i, m := range all {
			if !same(m, message(i)) {
				t.Fatalf("room %d: %v", n, m)
			}
		}
		if len(all) != n || b.Len() != 0 {
			t.Errorf("room %d: %d", n, len(all))
		}
	}
}

// P22.2
func TestPutAndTake(t *testing.T) {
	b := lay(t, 3)
	none := func() {
		t.Helper()
		if m, ok := b.Take(); ok || !same(m, api.Message{}) || len(b.Drain()) != 0 || b.Len() != 0 {
			t.Errorf("none waits: %v", m)
		}
	}
	takes := func(n, left int) {
		t.Helper()
		if m, ok := b.Take(); !ok || !same(m, message(n)) || b.Len() != left {
			t.Errorf("not %d: %v, %d", n, m, b.Len())
		}
	}
	none()
	b.Put(message(1))
	b.Put(message(2))
	takes(1, 1)
	b.Put(message(3))
	b.Put(message(4))
	if e := b.Put(message(5)); e != api.ErrBox {
		t.Error(e)
	}
	takes(2, 2)
	b.Put(message(6))
	if all := b.Drain(); len(all) != 3 || !same(all[0], message(3)) || !same(all[1], message(4)) || !same(all[2], message(6)) {
		t.Errorf("%v", all)
	}
	none()
	b.Put(message(7))
	takes(7, 0)
	none()
}

// P22.3, rule 6
func TestNothingShared(t *testing.T) {
	b, other := lay(t, 2), lay(t, 2)
	m := message(1)
	b.Put(m)
	b.Put(m)
	spoil := func(m api.Message) {
		m.Call.Op.Data[0], m.Answer.Data[0], m.Answer.Names[0], m.Hashes[0], m.Blocks[0][0], m.Blocks[1] = '!', '!', "!", api.Hash{}, '!', nil
	}
	spoil(m)
	for range 2 {
		got, ok := b.Take()
		if !ok || !same(got, message(1)) {
			t.Errorf("a message was kept, or is shared: %v", got)
		}
		spoil(got)
	}
	if other.Len() != 0 {
		t.Error("two boxes are one")
	}
}
