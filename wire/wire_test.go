package wire

import (
	"bytes"
	"crypto/sha256"
	"encoding/binary"
	"fmt"
	"reflect"
	"testing"

	"trireme/api"
	"trireme/oper"
)

func blocks(n, size int) (list [][]byte) {
	for i := range n {
		list = append(list, bytes.Repeat([]byte{byte(i)}, size))
	}
	return list
}

func hashes(n int) (list []api.Hash) {
	for i := range n {
		list = append(list, api.Hash{byte(i), 31: 5})
	}
	return list
}

func request() api.Message {
	return api.Message{Kind: api.MsgRequest, From: 103, To: 2, Call: api.Call{Client: 3, Number: 1<<64 - 1, Op: api.Op{Kind: 3, Path: "/a", Off: 7, Data: []byte("xyz")}}}
}

func reply() api.Message {
	return api.Message{Kind: api.MsgReply, From: 2, To: 100, Call: api.Call{Client: 0, Number: 1}, Answer: api.Answer{Code: 5, N: 9, Data: []byte("d"), Names: []string{"n", "m"}}}
}

func right() []api.Message {
	zeroReply := reply()
	zeroReply.Answer = api.Answer{}
	full := request()
	full.View, full.Normal, full.Gen, full.Commit, full.Head = 1, 2, 3, 4, api.Hash{9}
	full.Hashes, full.Blocks = hashes(16), blocks(64, 470)
	return []api.Message{request(), reply(), zeroReply, full, {Kind: api.MsgFetch}, {Kind: api.MsgFetch, From: 255, To: 255, Hashes: hashes(1)},
		{Kind: api.MsgPrepare, View: 1<<64 - 1, Normal: 1 << 50, Gen: 258, Commit: 1, Head: api.Hash{1, 31: 2}, Blocks: [][]byte{nil, []byte("b"), nil}},
		{Kind: api.MsgOK, From: 1}, {Kind: api.MsgCommit, To: 6}, {Kind: api.MsgViewChange, Normal: 7}, {Kind: api.MsgBlocks, Blocks: blocks(64, 3), Hashes: hashes(16)}}
}

// bytesOf is a message's bytes by the chapter's words, right or not.
func bytesOf(m api.Message, op, answer []byte) []byte {
	b := []byte{3, byte(m.Kind), byte(m.From), byte(m.To)}
	for _, n := range []uint64{m.View, m.Normal, m.Gen, m.Commit} {
		b = binary.BigEndian.AppendUint64(b, n)
	}
	b = append(b, m.Head[:]...)
	b = append(b, byte(m.Call.Client))
	b = binary.BigEndian.AppendUint64(b, m.Call.Number)
	text := func(t []byte) {
		b = binary.BigEndian.AppendUint16(b, uint16(len(t)))
		b = append(b, t...)
	}
	text(op)
	text(answer)
	b = append(b, byte(len(m.Hashes)))
	for _, h := range m.Hashes {
		b = append(b, h[:]...)
	}
	b = append(b, byte(len(m.Blocks)))
	for _, x := range m.Blocks {
		text(x)
	}
	return signed(b)
}

func signed(b []byte) []byte {
	sum := sha256.Sum256(b)
	return append(bytes.Clone(b), sum[:8]...)
}

func rightBytes(m api.Message) []byte {
	var op, answer []byte
	if m.Kind == api.MsgRequest {
		op, _ = oper.Write(m.Call.Op)
	}
	if m.Kind == api.MsgReply {
		answer, _ = oper.WriteAnswer(m.Answer)
	}
	return bytesOf(m, op, answer)
}

// P19.1, P19.2
func TestThereAndBack(t *testing.T) {
	for _, m := range right() {
		want := rightBytes(m)
		if e := Check(m); e != api.OK {
			t.Errorf("Check of %v: %v", m, e)
		}
		if b, e := Write(m); !bytes.Equal(b, want) || e != api.OK {
			t.Errorf("Write of %v: %x, %v", m, b, e)
		}
		if got, e := Read(want); fmt.Sprint(got) != fmt.Sprint(m) || e != api.OK {
			t.Errorf("Read: %v, %v, not %v", got, e, m)
		}
	}
	if b, _ := Write(api.Message{Kind: api.MsgFetch}); len(b) != 91 {
		t.Errorf("%d bytes", len(b))
	}
}

func change(m api.Message, f func(m *api.Message)) api.Message {
	f(&m)
	return m
}

// P19.1
func TestWrongMessages(t *testing.T) {
	fetch := api.Message{Kind: api.MsgFetch}
	for what, m := range map[string]api.Message{
		"no kind": {}, "kind below": {Kind: -1}, "kind beyond": {Kind: 9}, "far beyond": {Kind: 1 + 256},
		"From below": {Kind: 4, From: -1}, "From beyond": {Kind: 4, From: 256}, "To below": {Kind: 4, To: -1 << 63}, "To beyond": {Kind: 4, To: 1<<63 - 1},
		"17 hashes": change(fetch, func(m *api.Message) { m.Hashes = hashes(17) }), "65 blocks": change(fetch, func(m *api.Message) { m.Blocks = blocks(65, 1) }),
		"a long block":   change(fetch, func(m *api.Message) { m.Blocks = append(blocks(3, 470), make([]byte, 471)) }),
		"a client below": change(request(), func(m *api.Message) { m.Call.Client = -1 }), "a client beyond": change(request(), func(m *api.Message) { m.Call.Client = 4 }),
		"number 0": change(request(), func(m *api.Message) { m.Call.Number = 0 }), "a zero operation": change(request(), func(m *api.Message) { m.Call.Op = api.Op{} }),
		"a wrong operation": change(request(), func(m *api.Message) { m.Call.Op.Off = -1 }), "a request's answer": change(request(), func(m *api.Message) { m.Answer.N = 1 }),
		"a request's names": change(request(), func(m *api.Message) { m.Answer.Names = []string{"a"} }),
		"a reply's client":  change(reply(), func(m *api.Message) { m.Call.Client = 4 }), "a reply's number": change(reply(), func(m *api.Message) { m.Call.Number = 0 }),
		"a reply's operation": change(reply(), func(m *api.Message) { m.Call.Op.Kind = 1 }), "a reply's data": change(reply(), func(m *api.Message) { m.Call.Op.Data = []byte{0} }),
		"a wrong answer": change(reply(), func(m *api.Message) { m.Answer.N = -1 }), "a long name": change(reply(), func(m *api.Message) { m.Answer.Names = []string{"123456789"} }),
	} {
		if e := Check(m); e != api.ErrArg {
			t.Errorf("Check, %s: %v", what, e)
		}
		if b, e := Write(m); len(b) != 0 || e != api.ErrArg {
			t.Errorf("Write, %s: %v", what, e)
		}
	}
	for kind := api.MsgPrepare; kind <= api.MsgBlocks; kind++ {
		for i, m := range []api.Message{{Call: api.Call{Client: 1}}, {Call: api.Call{Number: 1}}, {Call: api.Call{Op: api.Op{Kind: 1}}}, {Call: api.Call{Op: api.Op{To: "x"}}}, {Answer: api.Answer{Code: 1}}, {Answer: api.Answer{Data: []byte{0}}}} {
			m.Kind = kind
			if e := Check(m); e != api.ErrArg {
				t.Errorf("kind %d, %d: %v", kind, i, e)
			}
		}
		if e := Check(api.Message{Kind: kind, Answer: api.Answer{Data: []byte{}}, Call: api.Call{Op: api.Op{Data: []byte{}}}}); e != api.OK {
			t.Errorf("kind %d: empty and nil are one: %v", kind, e)
		}
	}
}

func refuses(t *testing.T, what string, b []byte) {
	t.Helper()
	if m, e := Read(b); !reflect.DeepEqual(m, api.Message{}) || e != api.ErrForm {
		t.Errorf("%s: %v, %v", what, m, e)
	}
}

// P19.2
func TestReadRefuses(t *testing.T) {
	for i, m := range right() {
		b := rightBytes(m)
		step := max(len(b)/300, 1)
		for at := 0; at < len(b); at += step {
			refuses(t, fmt.Sprint(i, " cut at ", at), b[:at])
			bad := bytes.Clone(b)
			bad[at]++
			refuses(t, fmt.Sprint(i, " byte ", at), bad)
		}
		refuses(t, "tail", append(bytes.Clone(b), 0))
		body := b[:len(b)-8]
		refuses(t, "cut, and signed", signed(body[:len(body)-1]))
		refuses(t, "tail, and signed", signed(append(bytes.Clone(body), 0)))
		body = bytes.Clone(body)
		body[0] = 2
		refuses(t, "version 2", signed(body))
	}
	fetch := api.Message{Kind: api.MsgFetch}
	op, _ := oper.Write(request().Call.Op)
	answer, _ := oper.WriteAnswer(reply().Answer)
	for what, b := range map[string][]byte{
		"kind 0": bytesOf(api.Message{}, nil, nil), "kind 9": bytesOf(api.Message{Kind: 9}, nil, nil),
		"an operation": bytesOf(fetch, op, nil), "an answer": bytesOf(fetch, nil, answer), "a zero answer": bytesOf(fetch, nil, make([]byte, 7)), "a wrong operation": bytesOf(fetch, []byte("x"), nil), "a wrong answer": bytesOf(fetch, nil, []byte("x")),
		"a client": bytesOf(api.Message{Kind: api.MsgOK, Call: api.Call{Client: 1}}, nil, nil), "a number": bytesOf(api.Message{Kind: api.MsgOK, Call: api.Call{Number: 1}}, nil, nil),
		"a request's client": bytesOf(change(request(), func(m *api.Message) { m.Call.Client = 4 }), op, nil), "a request without one": bytesOf(request(), nil, nil), "a request's answer": bytesOf(request(), op, make([]byte, 7)),
		"a request's long operation": bytesOf(request(), append(bytes.Clone(op), 0), nil), "a reply without answer": bytesOf(reply(), nil, nil), "a reply's operation": bytesOf(reply(), op, answer), "a reply's long answer": bytesOf(reply(), nil, append(bytes.Clone(answer), 0)),
		"17 hashes": bytesOf(api.Message{Kind: 7, Hashes: hashes(17)}, nil, nil), "65 blocks": bytesOf(api.Message{Kind: 8, Blocks: blocks(65, 1)}, nil, nil), "a long block": bytesOf(api.Message{Kind: 8, Blocks: blocks(1, 471)}, nil, nil),
		"nothing": nil, "noughts": make([]byte, 91), "a digest alone": signed(nil),
	} {
		refuses(t, what, b)
	}
}

func spoil(b []byte) {
	b = b[:cap(b)]
	for i := range b {
		b[i] = '!'
	}
}

// P19.3
func TestNothingShared(t *testing.T) {
	for _, m := range right() {
		before := fmt.Sprint(m)
		b, _ := Write(m)
		in := bytes.Clone(b)
		spoil(b)
		if fmt.Sprint(m) != before {
			t.Error("a message shares memory with its bytes")
		}
		got, _ := Read(in)
		spoil(got.Answer.Data)
		spoil(got.Call.Op.Data)
		for i, x := range got.Blocks {
			if len(x) > 0 && x[0] != byte(i) && x[0] != 'b' {
				t.Error("two blocks share memory")
			}
			spoil(x)
		}
		clear(got.Hashes)
		if again, e := Read(in); fmt.Sprint(again) != before || e != api.OK {
			t.Error("bytes share memory with their message")
		}
	}
}
