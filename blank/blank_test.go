package blank

import (
	"testing"

	"trireme/api"
)

func TestZero(t *testing.T) {
	for _, c := range []api.Call{{}, {Op: api.Op{Data: []byte{}}}} {
		if !Call(c) || !Op(c.Op) {
			t.Errorf("%v is zero", c)
		}
	}
	for _, o := range []api.Op{{Kind: 1}, {Path: "a"}, {To: "a"}, {Off: 1}, {N: -1}, {Data: []byte{0}}} {
		if Op(o) || Call(api.Call{Op: o}) {
			t.Errorf("%v isn't zero", o)
		}
	}
	if Call(api.Call{Client: 1}) || Call(api.Call{Number: 1}) {
		t.Error("a call that isn't zero")
	}
	if !Answer(api.Answer{}) || !Answer(api.Answer{Data: []byte{}, Names: []string{}}) {
		t.Error("a zero answer")
	}
	for _, a := range []api.Answer{{Code: 1}, {N: 1}, {Data: []byte{0}}, {Names: []string{""}}} {
		if Answer(a) {
			t.Errorf("%v isn't zero", a)
		}
	}
}
