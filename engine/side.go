package engine

import (
	"theodolite/api"
	"theodolite/cert"
	"theodolite/disk"
	"theodolite/flat"
	"theodolite/store"
)

// side is the store's side of an engine: its rows, and what of them a new index still lacks. It knows nothing of indexes.
type side struct {
	table   *store.Store
	dim     int
	waiting []api.Change // what take gives first
	known   int          // the number of the last change that was laid into waiting, or stood ahead of it
}

// isNoDisk tells whether d is none that calls gave. No file has no name, but such a disk does not come to look for one.
func isNoDisk(d *disk.Disk) bool {
	_, e := d.Read("")
	return e == api.ErrNil
}

func openSide(d *disk.Disk, dim int) (side, api.Errno) {
	table, e := store.Open(d, dim)
	if e != api.OK {
		return side{}, e
	}
	return side{table: table, dim: dim}, api.OK
}

// saved is the number of a change that was done, if it is safe then.
func (s *side) saved(number int) (int, api.Errno) {
	if e := s.table.Sync(); e != api.OK {
		return 0, e
	}
	return number, api.OK
}

// isCertain tells whether an answer is, of just the rows that there are.
func (s *side) isCertain(q api.Query, a api.Answer) bool {
	// Rows and question were checked, so that there is nothing wrong with them.
	certain, _ := cert.Certain(s.table.Rows(), q.V, q.K, a)
	return certain
}

// lookAtAll answers without an index.
func (s *side) lookAtAll(q api.Query) api.Result {
	hits, _ := flat.TopK(s.table.Rows(), q.V, q.K)
	return api.Result{Hits: hits, Exact: true, Spec: api.Spec{Kind: api.KindFlat}}
}

// leaveAll lets all rows be left, and each change from now on.
func (s *side) leaveAll() {
	for _, row := range s.table.Rows() {
		s.waiting = append(s.waiting, api.Change{Kind: api.ChangePut, Id: row.Id, V: row.V})
	}
	s.known = s.table.Seq()
}

// leaveNone forgets what is left: nobody asks for it any more.
func (s *side) leaveNone() { s.waiting = nil }

// left is how much take has still to give.
func (s *side) left() int { return len(s.waiting) + s.table.Seq() - s.known }

// take gives what is left, one after the other: the rows, each as a change that puts it, then the changes in their order.
func (s *side) take() (api.Change, bool) {
	if len(s.waiting) == 0 {
		s.waiting, _ = s.table.Since(s.known)
		s.known = s.table.Seq()
	}
	if len(s.waiting) == 0 {
		return api.Change{}, false
	}
	next := s.waiting[0]
	s.waiting = s.waiting[1:]
	return next, true
}
