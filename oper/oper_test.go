package oper

import (
	"bytes"
	"reflect"
	"strings"
	"testing"

	"trireme/api"
)

func zeros(n int) []byte { return make([]byte, n) }

func sameOp(a, b api.Op) bool {
	x, y := a.Data, b.Data
	a.Data, b.Data = nil, nil
	return reflect.DeepEqual(a, b) && bytes.Equal(x, y)
}

func sameAnswer(a, b api.Answer) bool {
	return a.Code == b.Code && a.N == b.N && bytes.Equal(a.Data, b.Data) && strings.Join(a.Names, "/") == strings.Join(b.Names, "/") && len(a.Names) == len(b.Names)
}

// P10.1
func TestOp(t *testing.T) {
	long := strings.Repeat("p", 32)
	for _, c := range []struct {
		o    api.Op
		want string
	}{
		{api.Op{Kind: 1}, "\x01\x00\x00\x00\x00\x00\x00\x00\x00\x00\x00"},
		{api.Op{Kind: 13, Path: "/a", To: "b", Off: 258, N: 65535, Data: []byte("xyz")}, "\x0d\x01\x02\xff\xff\x00\x02/a\x00\x01b\x00\x03xyz"},
		{api.Op{Kind: 3, Path: long, To: long, Off: 65535, Data: zeros(64)}, "\x03\xff\xff\x00\x00\x00\x20" + long + "\x00\x20" + long + "\x00\x40" + string(zeros(64))},
	} {
		if b, e := Write(c.o); string(b) != c.want || e != api.OK {
			t.Errorf("%v: %q, %v", c.o, b, e)
		}
		if o, e := Read([]byte(c.want)); !sameOp(o, c.o) || e != api.OK {
			t.Errorf("%q: %v, %v", c.want, o, e)
		}
	}
}

// P10.1
func TestWrongOps(t *testing.T) {
	for _, o := range []api.Op{
		{}, {Kind: -1}, {Kind: 14}, {Kind: 257}, {Kind: -1 << 63},
		{Kind: 1, Path: strings.Repeat("p", 33)}, {Kind: 1, To: strings.Repeat("p", 33)}, {Kind: 1, Path: strings.Repeat("p", 70000)},
		{Kind: 1, Off: -1}, {Kind: 1, Off: 65536}, {Kind: 1, N: -1}, {Kind: 1, N: 65536}, {Kind: 1, N: 1<<63 - 1}, {Kind: 1, Off: -1 << 63},
		{Kind: 1, Data: zeros(65)}, {Kind: 1, Data: zeros(70000)},
	} {
		if b, e := Write(o); len(b) != 0 || e != api.ErrArg {
			t.Errorf("%.60v: %q, %v", o, b, e)
		}
	}
	right, _ := Write(api.Op{Kind: 2, Path: "/a", To: "b", Off: 1, N: 2, Data: []byte("xyz")})
	bad := [][]byte{nil, append(bytes.Clone(right), 0), zeros(11), []byte("\x0e\x00\x00\x00\x00\x00\x00\x00\x00\x00\x00"),
		[]byte("\x01\x00\x00\x00\x00\x00\x21" + string(zeros(33)) + "\x00\x00\x00\x00"),
		[]byte("\x01\x00\x00\x00\x00\x00\x00\x00\x21" + string(zeros(33)) + "\x00\x00"),
		[]byte("\x01\x00\x00\x00\x00\x00\x00\x00\x00\x00\x41" + string(zeros(65)))}
	for cut := range right {
		bad = append(bad, right[:cut])
	}
	for _, b := range bad {
		if o, e := Read(b); !reflect.DeepEqual(o, api.Op{}) || e != api.ErrForm {
			t.Errorf("%q: %v, %v", b, o, e)
		}
	}
}

// P10.2
func TestAnswer(t *testing.T) {
	for _, c := range []struct {
		a    api.Answer
		want string
	}{
		{api.Answer{}, "\x00\x00\x00\x00\x00\x00\x00"},
		{api.Answer{Code: 258, N: 65535, Data: []byte("xy"), Names: []string{"a", "12345678"}}, "\x01\x02\xff\xff\x00\x02xy\x02\x00\x01a\x00\x0812345678"},
		{api.Answer{Code: 65535, Data: zeros(64), Names: []string{"a", "a", " ", "/", "\xff", "b"}},
			"\xff\xff\x00\x00\x00\x40" + string(zeros(64)) + "\x06\x00\x01a\x00\x01a\x00\x01 \x00\x01/\x00\x01\xff\x00\x01b"},
	} {
		if b, e := WriteAnswer(c.a); string(b) != c.want || e != api.OK {
			t.Errorf("%v: %q, %v", c.a, b, e)
		}
		if a, e := ReadAnswer([]byte(c.want)); !sameAnswer(a, c.a) || e != api.OK {
			t.Errorf("%q: %v, %v", c.want, a, e)
		}
	}
}

// P10.2
func TestWrongAnswers(t *testing.T) {
	for _, a := range []api.Answer{
		{Code: -1}, {Code: 65536}, {Code: -1 << 63}, {N: -1}, {N: 65536}, {N: 1<<63 - 1}, {Data: zeros(65)},
		{Names: []string{"a", "b", "c", "d", "e", "f", "g"}}, {Names: []string{""}}, {Names: []string{"a", "123456789"}}, {Names: make([]string, 300)},
	} {
		if b, e := WriteAnswer(a); len(b) != 0 || e != api.ErrArg {
			t.Errorf("%v: %q, %v", a, b, e)
		}
	}
	right, _ := WriteAnswer(api.Answer{Code: 1, N: 2, Data: []byte("xyz"), Names: []string{"a", "bc"}})
	bad := [][]byte{nil, append(bytes.Clone(right), 0), []byte("\x00\x00\x00\x00\x00\x00\x01"),
		[]byte("\x00\x00\x00\x00\x00\x00\x01\x00\x00"), []byte("\x00\x00\x00\x00\x00\x00\x01\x00\x09123456789"),
		[]byte("\x00\x00\x00\x00\x00\x00\x07" + strings.Repeat("\x00\x01a", 7)),
		[]byte("\x00\x00\x00\x00\x00\x41" + string(zeros(65)) + "\x00")}
	for cut := range right {
		bad = append(bad, right[:cut])
	}
	for _, b := range bad {
		if a, e := ReadAnswer(b); !reflect.DeepEqual(a, api.Answer{}) || e != api.ErrForm {
			t.Errorf("%q: %v, %v", b, a, e)
		}
	}
}

// P10.3
func TestNothingShared(t *testing.T) {
	o := api.Op{Kind: 3, Path: "/a", Data: []byte("xyz")}
	a := api.Answer{Data: []byte("xyz"), Names: []string{"n"}}
	b, _ := Write(o)
	c, _ := WriteAnswer(a)
	b1, c1 := bytes.Clone(b), bytes.Clone(c)
	o1, _ := Read(b1)
	a1, _ := ReadAnswer(c1)
	o.Data[0], a.Data[0], a.Names[0] = '!', '!', "!"
	o1.Data[0], a1.Data[0], a1.Names[0] = '!', '!', "!"
	if !bytes.Equal(b, b1) || !bytes.Equal(c, c1) {
		t.Error("an argument was changed or kept")
	}
	if o2, _ := Read(b1); string(o2.Data) != "xyz" {
		t.Error("an answer shares memory")
	}
	if a2, _ := ReadAnswer(c1); string(a2.Data) != "xyz" || a2.Names[0] != "n" {
		t.Error("an answer shares memory")
	}
}
