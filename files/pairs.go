package files

import (
	"bytes"
	"iter"
	"slices"

	"trireme/api"
	"trireme/pack"
	"trireme/path"
)

const (
	nameMark  = 'n' // ahead of keys
	chunkMark = 'c'
	dirMark   = 'd' // ahead of values
	fileMark  = 'f'

	sizeSize = 2
	tailSize = 2 // bytes of a chunk's key behind its path: 0, and its number
)

// pairs gives the pairs of files, rising.
func (f forest) pairs() []api.Pair {
	var list []api.Pair
	for p, it := range f {
		list = append(list, api.Pair{Key: nameKey(p), Value: it.head()})
		for number, chunk := range chunks(it.data) {
			list = append(list, api.Pair{Key: chunkKey(p, number), Value: slices.Clone(chunk)})
		}
	}
	slices.SortFunc(list, func(a, b api.Pair) int { return bytes.Compare(a.Key, b.Key) })
	return list
}

// head gives what stands beside a path.
func (it file) head() []byte {
	if it.dir {
		return []byte{dirMark}
	}
	p := &pack.Pen{}
	p.Uint(fileMark, 1)
	p.Uint(uint64(len(it.data)), sizeSize)
	return p.Data()
}

func nameKey(p string) []byte { return append([]byte{nameMark}, p...) }

func chunkKey(p string, number int) []byte {
	return append(append([]byte{chunkMark}, p...), 0, byte(number))
}

// chunks gives a file's chunks by their numbers.
func chunks(data []byte) iter.Seq2[int, []byte] {
	return func(yield func(int, []byte) bool) {
		for number := 0; number*api.ChunkSize < len(data); number++ {
			from := number * api.ChunkSize
			if !yield(number, data[from:min(from+api.ChunkSize, len(data))]) {
				return
			}
		}
	}
}

// parse gives the files of pairs, and tells whether there are any that have just these pairs.
func parse(pairs []api.Pair) (forest, bool) {
	f := forest{}
	for _, p := range pairs {
		if len(p.Key) > 0 && p.Key[0] == nameMark && !f.takeName(p) {
			return nil, false
		}
	}
	// The chunks' keys come ahead of the names', but can only be told by these.
	for _, p := range pairs {
		if len(p.Key) == 0 || p.Key[0] != nameMark && !f.takeChunk(p) {
			return nil, false
		}
	}
	if !f.rooted() {
		return nil, false
	}
	same := slices.EqualFunc(f.pairs(), pairs, func(a, b api.Pair) bool {
		return bytes.Equal(a.Key, b.Key) && bytes.Equal(a.Value, b.Value)
	})
	return f, same
}

// takeName takes a path, with noughts as a file's bytes.
func (f forest) takeName(p api.Pair) bool {
	name := string(p.Key[1:])
	if path.Check(name) != api.OK {
		return false
	}
	eye := pack.NewEye(p.Value)
	mark, _ := eye.Uint(1)
	if mark == dirMark {
		f[name] = file{dir: true}
		return true
	}
	size, e := eye.Uint(sizeSize)
	if e != api.OK || size > api.MaxFile {
		return false
	}
	f[name] = file{data: make([]byte, size)}
	return true
}

// takeChunk takes bytes of a file whose name is known.
func (f forest) takeChunk(p api.Pair) bool {
	end := len(p.Key) - tailSize
	if p.Key[0] != chunkMark || end < 1 {
		return false
	}
	data := f[string(p.Key[1:end])].data
	from := int(p.Key[end+1]) * api.ChunkSize
	if from >= len(data) {
		return false
	}
	copy(data[from:], p.Value)
	return true
}

// rooted tells whether there is /, and each other path stands in a directory.
func (f forest) rooted() bool {
	for p := range f {
		if p != root && !f[path.Parent(p)].dir {
			return false
		}
	}
	return f[root].dir
}
