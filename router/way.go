package router

import (
	"math/bits"

	"theodolite/api"
)

// way is a way of searching: an index that is built so, over so many rows of that dimension. All of it was checked, so that no product is too great.
type way struct {
	spec      api.Spec
	rows, dim int
}

// costOf takes the method that tells what a way of that kind costs.
func costOf(k api.Kind) func(way) int {
	switch k {
	case api.KindKd:
		return way.kd
	case api.KindVp:
		return way.vp
	case api.KindIvf:
		return way.ivf
	case api.KindPq:
		return way.pq
	case api.KindHnsw:
		return way.hnsw
	}
	return way.flat
}

func (w way) flat() int { return w.dim * w.rows }

func (w way) kd() int { return w.halved(2) }

func (w way) vp() int { return w.halved(3) }

func (w way) hnsw() int { return w.halved(4) }

func (w way) ivf() int {
	return w.dim * (w.spec.Size + dividedUp(2*w.rows, w.spec.Size))
}

// pq counts whole vectors (centres, books, and some rows at the end) by their coordinates, and the rows of a list by the parts of their codes.
func (w way) pq() int {
	const rowsAtTheEnd = 16
	vectors := w.spec.Size + w.spec.Codes + rowsAtTheEnd
	return w.dim*vectors + w.spec.Parts*dividedUp(w.rows, w.spec.Size)
}

// halved is what it costs to look at some times Size rows as often as the rows can be halved, but never at more than there are.
func (w way) halved(times int) int {
	digits := bits.Len(uint(w.rows))
	return w.dim * min(w.rows, times*w.spec.Size*digits)
}

// dividedUp is a divided by b, rounded up.
func dividedUp(a, b int) int { return (a + b - 1) / b }
