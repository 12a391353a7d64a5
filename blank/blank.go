// Package blank tells what is zero: a list without elements and a nil one are the same.
package blank

import "trireme/api"

// Op tells whether an operation is zero.
func Op(o api.Op) bool {
	return o.Kind == 0 && o.Path == "" && o.To == "" && o.Off == 0 && o.N == 0 && len(o.Data) == 0
}

// Call tells whether a call is zero.
func Call(c api.Call) bool {
	return c.Client == 0 && c.Number == 0 && Op(c.Op)
}

// Answer tells whether an answer is zero.
func Answer(a api.Answer) bool {
	return a.Code == api.OK && a.N == 0 && len(a.Data) == 0 && len(a.Names) == 0
}
