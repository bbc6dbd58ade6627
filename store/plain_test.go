package store

import (
	"fmt"
	"reflect"
	"slices"
	"testing"

	"theodolite/api"
	"theodolite/disk"
)

// plain says the chapter anew, to hold a store against: it knows which changes were done, and nothing of files.
type plain struct {
	dim     int
	changes []api.Change // the numbers 1 to Seq
	opened  int          // Seq when the store was opened
	safe    int
	// last is the change whose call answered ErrDiskDown first, since the disk did.
	last    []api.Change
	down    bool
	crashed bool // since the store was opened
}

// rows are those that the first n changes leave.
func (p *plain) rows(n int) []api.Row {
	var rows []api.Row
	seen := map[int]bool{}
	for _, c := range slices.Backward(p.changes[:n]) {
		if !seen[c.Id] && c.Kind == api.ChangePut {
			rows = append(rows, api.Row{Id: c.Id, V: c.V})
		}
		seen[c.Id] = true
	}
	slices.SortFunc(rows, func(a, b api.Row) int { return a.Id - b.Id })
	return rows
}

func (p *plain) now() []api.Row { return p.rows(len(p.changes)) }

func (p *plain) has(id int) bool {
	return slices.ContainsFunc(p.now(), func(r api.Row) bool { return r.Id == id })
}

// wrong is the error that P19.2 names ahead of the disk's.
func (p *plain) wrong(c api.Change) api.Errno {
	if c.Kind == api.ChangeDelete {
		if p.has(c.Id) {
			return api.OK
		}
		return api.ErrStoreNone
	}
	if c.Id < 1 || c.Id > 1000000000 {
		return api.ErrFlatId
	}
	if len(c.V) != p.dim {
		return api.ErrVecDim
	}
	for _, x := range c.V {
		if x < -2147483647 || x > 2147483647 {
			return api.ErrVecCoord
		}
	}
	if !p.has(c.Id) && len(p.now()) == 512 {
		return api.ErrStoreMany
	}
	return api.OK
}

// answered is what a call that the disk may refuse has answered; c is the change that it was to do, if any.
func (p *plain) answered(e api.Errno, c ...api.Change) {
	if e == api.OK {
		p.changes = append(p.changes, c...)
	}
	if e == api.ErrDiskDown && !p.down {
		p.down = true
		p.last = c
	}
}

// reopened tells what is wrong with a store that was opened on the disk of this one, and goes on from there.
func (p *plain) reopened(s *Store) string {
	if p.crashed {
		p.changes = append(p.changes, p.last...)
	} else {
		p.safe = len(p.changes)
	}
	n := s.Seq()
	if n < p.safe || n > len(p.changes) {
		return fmt.Sprintf("P19.7: Seq %d, want %d to %d", n, p.safe, len(p.changes))
	}
	p.changes = p.changes[:n]
	p.opened, p.safe = n, n
	p.last, p.down, p.crashed = nil, false, false
	if s.Safe() != n {
		return fmt.Sprintf("P19.4: Safe %d behind Open, Seq %d", s.Safe(), n)
	}
	return ""
}

// wrongRows tells what is wrong with the rows that the store tells.
func (p *plain) wrongRows(s *Store) string {
	want := p.now()
	if rows := s.Rows(); len(rows)+len(want) > 0 && !reflect.DeepEqual(rows, want) || s.Len() != len(want) {
		return fmt.Sprintf("P19.3: Len %d, Rows %s, want %s", s.Len(), brief(rows), brief(want))
	}
	for _, r := range want {
		if v, e := s.Get(r.Id); e != api.OK || !slices.Equal(v, r.V) {
			return fmt.Sprintf("P19.3: Get(%d): %v, %d, want %v", r.Id, v, e, r.V)
		}
	}
	for id := range 8 {
		if v, e := s.Get(id); !p.has(id) && (v != nil || e != api.ErrStoreNone) {
			return fmt.Sprintf("P19.3: Get(%d): %v, %d, want none", id, v, e)
		}
	}
	return ""
}

// wrongNumbers tells what is wrong with the numbers that the store tells; what it says is safe must survive from now on.
func (p *plain) wrongNumbers(s *Store) string {
	if s.Seq() != len(p.changes) || s.Safe() < p.safe || s.Safe() > s.Seq() {
		return fmt.Sprintf("P19.4: Seq %d, Safe %d, want %d, %d at least", s.Seq(), s.Safe(), len(p.changes), p.safe)
	}
	p.safe = s.Safe()
	return ""
}

// wrongSince tells what is wrong with the changes that the store tells, behind the least numbers and the greatest ones that may be.
func (p *plain) wrongSince(s *Store) string {
	for seq := p.opened - 2; seq <= len(p.changes)+2; seq++ {
		if seq == p.opened+3 {
			seq = max(seq, len(p.changes)-3)
		}
		changes, e := s.Since(seq)
		if seq < p.opened || seq > len(p.changes) {
			if e != api.ErrStoreSeq || len(changes) != 0 {
				return fmt.Sprintf("P19.6: Since(%d): %v, %d", seq, changes, e)
			}
			continue
		}
		want := p.changes[seq:]
		if e != api.OK || len(changes)+len(want) > 0 && !reflect.DeepEqual(changes, want) {
			return fmt.Sprintf("P19.6: Since(%d): %v, %d, want %v", seq, changes, e, want)
		}
	}
	return ""
}

// told is a store, the chapter's words about it, and what was done so far.
type told struct {
	t     *testing.T
	d     *disk.Disk
	s     *Store
	p     plain
	story []string
}

func newTold(t *testing.T, room, dim int) *told {
	t.Helper()
	h := &told{t: t, d: newDisk(t, room), p: plain{dim: dim}}
	h.note("room %d, dimension %d", room, dim)
	return h
}

func (h *told) note(text string, a ...any) { h.story = append(h.story, fmt.Sprintf(text, a...)) }

func (h *told) fail(wrong string) {
	h.t.Helper()
	if wrong != "" {
		h.t.Fatalf("%v: %s", h.story, wrong)
	}
}

// open opens the store, if the disk lets it.
func (h *told) open() api.Errno {
	h.t.Helper()
	s, e := Open(h.d, h.p.dim)
	h.note("open: %d", e)
	if e != api.OK {
		if s != nil {
			h.fail("P19.1: a store with an error")
		}
		return e
	}
	h.s = s
	h.fail(h.p.reopened(s))
	h.check()
	return e
}

func (h *told) crash(choices ...int) {
	h.note("crash%v", choices)
	h.d.Crash(choices...)
	h.p.crashed = true
}

func (h *told) put(id int, v ...int) api.Errno {
	h.t.Helper()
	n, e := h.s.Put(api.Row{Id: id, V: v})
	return h.changed(api.Change{Kind: api.ChangePut, Id: id, V: v}, n, e)
}

func (h *told) delete(id int) api.Errno {
	h.t.Helper()
	n, e := h.s.Delete(id)
	return h.changed(api.Change{Kind: api.ChangeDelete, Id: id}, n, e)
}

// changed holds what a change has answered against the chapter. What comes of the disk is answered; of what the chapter refuses nothing.
func (h *told) changed(c api.Change, n int, e api.Errno) api.Errno {
	h.t.Helper()
	h.note("%s: %d, %d", brief(c), n, e)
	if wrong := h.p.wrong(c); wrong != api.OK {
		if n != 0 || e != wrong {
			h.fail(fmt.Sprintf("P19.2: want %d", wrong))
		}
		return api.OK
	}
	h.p.answered(e, c)
	want := 0
	if e == api.OK {
		want = len(h.p.changes)
	}
	if n != want {
		h.fail(fmt.Sprintf("P19.2: want %d", want))
	}
	return e
}

func (h *told) sync() api.Errno {
	h.t.Helper()
	e := h.s.Sync()
	h.note("sync: %d", e)
	h.allSafe(e)
	return e
}

func (h *told) snapshot() api.Errno {
	h.t.Helper()
	e := h.s.Snapshot()
	h.note("snapshot: %d", e)
	h.allSafe(e)
	if most := 3*8*h.p.dim*len(h.p.now()) + 200000; e == api.OK && sizes(h.d) > most {
		h.fail(fmt.Sprintf("P19.5: the files have %d bytes, want at most %d", sizes(h.d), most))
	}
	return e
}

// allSafe is that all changes are safe, if the answer was OK.
func (h *told) allSafe(e api.Errno) {
	h.t.Helper()
	h.p.answered(e)
	if e != api.OK {
		return
	}
	h.p.safe = len(h.p.changes)
	if h.s.Safe() != h.p.safe {
		h.fail(fmt.Sprintf("P19.4: Safe %d, want %d", h.s.Safe(), h.p.safe))
	}
}

// check holds what the store tells now against the chapter.
func (h *told) check() {
	h.t.Helper()
	h.fail(h.p.wrongRows(h.s))
	h.fail(h.p.wrongNumbers(h.s))
	h.fail(h.p.wrongSince(h.s))
}

// copied is another one on a disk like this one, which goes on by itself. (Its store is to be opened.)
func (h *told) copied() *told {
	c := *h
	c.d = h.d.Clone()
	c.p.changes = slices.Clone(h.p.changes)
	c.story = slices.Clone(h.story)
	return &c
}

// brief is x as a text that is not too long to be read.
func brief(x any) string { return fmt.Sprintf("%.200s", fmt.Sprint(x)) }

// sizes is how many bytes the disk's files have in all.
func sizes(d *disk.Disk) int {
	size := 0
	for _, name := range d.Names() {
		b, _ := d.Read(name)
		size += len(b)
	}
	return size
}

// drawn is a stream of numbers that the seed tells.
func drawn(seed uint64) func(int) int {
	return func(n int) int {
		seed = seed*6364136223846793005 + 1442695040888963407
		return int((seed >> 33) % uint64(n))
	}
}

func newDisk(t *testing.T, room int) *disk.Disk {
	t.Helper()
	d, e := disk.New(room)
	if d == nil || e != api.OK {
		t.Fatalf("disk.New: %d", e)
	}
	return d
}
