package commit

import (
	"bytes"

	"trireme/api"
	"trireme/blank"
	"trireme/oper"
	"trireme/pack"
)

const (
	mark       = 'R'
	numberSize = 8
	hashSize   = len(api.Hash{})
	snapSize   = numberSize + hashSize // bytes of a snapshot's value
)

// Write puts a record into a block.
func Write(r api.Record) ([]byte, api.Errno) {
	op, e := writeOp(r)
	if e != api.OK {
		return nil, e
	}
	p := &pack.Pen{}
	p.Uint(mark, 1)
	p.Uint(r.Gen, numberSize)
	p.Uint(r.View, numberSize)
	for _, h := range hashes(&r) {
		p.Raw(h[:])
	}
	p.Uint(uint64(r.Call.Client), 1)
	p.Uint(r.Call.Number, numberSize)
	p.Text(op)
	return p.Data(), api.OK
}

// Read gives the record of a block.
func Read(block []byte) (api.Record, api.Errno) {
	eye := pack.NewEye(block)
	eye.Uint(1)
	var r api.Record
	r.Gen, _ = eye.Uint(numberSize)
	r.View, _ = eye.Uint(numberSize)
	for _, h := range hashes(&r) {
		b, _ := eye.Raw(hashSize)
		copy(h[:], b)
	}
	client, _ := eye.Uint(1)
	r.Call.Client = int(client)
	r.Call.Number, _ = eye.Uint(numberSize)
	if op, _ := eye.Text(); len(op) > 0 {
		r.Call.Op, _ = oper.Read(op)
	}
	// Whatever was read amiss, its block isn't this one.
	again, e := Write(r)
	if e != api.OK || !bytes.Equal(again, block) {
		return api.Record{}, api.ErrForm
	}
	return r, api.OK
}

// writeOp gives a right record's operation as bytes: none of the first generation.
func writeOp(r api.Record) ([]byte, api.Errno) {
	if r.Gen == 0 {
		if r.View != 0 || r.Parent != (api.Hash{}) || !blank.Call(r.Call) {
			return nil, api.ErrArg
		}
		return nil, api.OK
	}
	if r.Call.Client < 0 || r.Call.Client >= api.MaxClients || r.Call.Number == 0 {
		return nil, api.ErrArg
	}
	return oper.Write(r.Call.Op)
}

// hashes gives a record's digests in the order in which they are written.
func hashes(r *api.Record) []*api.Hash {
	return []*api.Hash{&r.Parent, &r.Files, &r.Snaps, &r.Seats}
}

func writeSnap(s api.Snap, root api.Hash) api.Pair {
	p := &pack.Pen{}
	p.Uint(s.Gen, numberSize)
	p.Raw(root[:])
	return api.Pair{Key: []byte(s.Name), Value: p.Data()}
}

// readSnap gives a snapshot without its files, and the digest of their tree.
func readSnap(p api.Pair) (api.Snap, api.Hash, api.Errno) {
	if len(p.Value) != snapSize {
		return api.Snap{}, api.Hash{}, api.ErrForm
	}
	gen, _ := pack.NewEye(p.Value).Uint(numberSize)
	return api.Snap{Name: string(p.Key), Gen: gen}, api.Hash(p.Value[numberSize:]), api.OK
}

func writeSeat(s api.Seat) (api.Pair, api.Errno) {
	answer, e := oper.WriteAnswer(s.Answer)
	if e != api.OK {
		return api.Pair{}, e
	}
	p := &pack.Pen{}
	p.Uint(s.Number, numberSize)
	p.Raw(answer)
	return api.Pair{Key: []byte{byte(s.Client)}, Value: p.Data()}, api.OK
}

func readSeat(p api.Pair) (api.Seat, api.Errno) {
	if len(p.Key) != 1 || len(p.Value) < numberSize {
		return api.Seat{}, api.ErrForm
	}
	number, _ := pack.NewEye(p.Value).Uint(numberSize)
	answer, e := oper.ReadAnswer(p.Value[numberSize:])
	return api.Seat{Client: int(p.Key[0]), Number: number, Answer: answer}, e
}
