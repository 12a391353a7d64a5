// Package pack is layer 2: see shared/doc/02-pack.md.
package pack

import (
	"slices"

	"trireme/api"
)

const (
	maxSize   = 8     // bytes of a number
	maxText   = 65535 // bytes of a text
	countSize = 2     // bytes of the number ahead of a text
)

// Pen writes numbers and texts.
type Pen struct{ data []byte }

// Uint writes a number in so many bytes.
func (p *Pen) Uint(n uint64, size int) api.Errno {
	if size < 1 || size > maxSize || size < maxSize && n>>(8*size) != 0 {
		return api.ErrArg
	}
	for k := size - 1; k >= 0; k-- {
		p.data = append(p.data, byte(n>>(8*k)))
	}
	return api.OK
}

// Text writes a text with its length.
func (p *Pen) Text(b []byte) api.Errno {
	if len(b) > maxText {
		return api.ErrLong
	}
	p.Uint(uint64(len(b)), countSize)
	p.Raw(b)
	return api.OK
}

// Raw writes bytes as they are.
func (p *Pen) Raw(b []byte) { p.data = append(p.data, b...) }

// Data gives what was written.
func (p *Pen) Data() []byte { return slices.Clone(p.data) }

// Eye reads numbers and texts.
type Eye struct {
	data []byte
	at   int
}

// NewEye gives an Eye at the beginning of bytes.
func NewEye(data []byte) *Eye { return &Eye{data: slices.Clone(data)} }

// Uint reads a number of so many bytes.
func (e *Eye) Uint(size int) (uint64, api.Errno) {
	if size < 1 || size > maxSize {
		return 0, api.ErrArg
	}
	if size > e.left() {
		return 0, api.ErrShort
	}
	n := uint64(0)
	for _, b := range e.data[e.at : e.at+size] {
		n = n<<8 | uint64(b)
	}
	e.at += size
	return n, api.OK
}

// Text reads a text with its length.
func (e *Eye) Text() ([]byte, api.Errno) {
	begin := e.at
	n, fault := e.Uint(countSize)
	if fault != api.OK {
		return nil, fault
	}
	b, fault := e.Raw(int(n))
	if fault != api.OK {
		e.at = begin
		return nil, fault
	}
	return b, api.OK
}

// Raw reads so many bytes.
func (e *Eye) Raw(n int) ([]byte, api.Errno) {
	if n < 0 {
		return nil, api.ErrArg
	}
	if n > e.left() {
		return nil, api.ErrShort
	}
	b := slices.Clone(e.data[e.at : e.at+n])
	e.at += n
	return b, api.OK
}

// End tells whether all was read.
func (e *Eye) End() api.Errno {
	if e.left() > 0 {
		return api.ErrTail
	}
	return api.OK
}

func (e *Eye) left() int { return len(e.data) - e.at }
