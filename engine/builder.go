package engine

import (
	"theodolite/api"
	"theodolite/backend"
)

// builder builds an index little by little.
type builder struct {
	dim   int
	seed  uint64
	index *backend.Backend
	of    int // how many rows the index was built of; the others were put
}

// newBuilder begins with an index of no rows.
func newBuilder(s api.Spec, dim int, seed uint64) (*builder, api.Errno) {
	index, e := backend.Build(s, dim, nil, seed)
	if e != api.OK {
		return nil, e
	}
	return &builder{dim: dim, seed: seed, index: index}, api.OK
}

// buildIn does n of the changes that take gives to the index, or all, if there are fewer.
func (b *builder) buildIn(n int, take func() (api.Change, bool)) {
	for range n {
		change, some := take()
		if !some {
			return
		}
		b.do(change)
		b.fit()
	}
}

// do does a change that the store has done, too, so that nothing is wrong with it.
func (b *builder) do(c api.Change) {
	if c.Kind == api.ChangeDelete {
		b.index.Delete(c.Id)
	} else {
		b.index.Put(api.Row{Id: c.Id, V: c.V})
	}
}

// fit makes the index of the rows that it has, if these have become more than twice as many: centres and books would stay what a few first rows made them.
func (b *builder) fit() {
	if b.index.Len() <= 2*b.of {
		return
	}
	b.of = b.index.Len()
	b.index, _ = backend.Build(b.index.Spec(), b.dim, b.index.Rows(), b.seed)
}
