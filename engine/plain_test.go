package engine

import (
	"cmp"
	"fmt"
	"math/big"
	"reflect"
	"slices"
	"testing"

	"theodolite/api"
	"theodolite/cert"
	"theodolite/disk"
)

// plain says the chapter anew, to hold an engine against: it knows which changes were done, and nothing of files and indexes.
type plain struct {
	dim     int
	first   api.Spec // of the configuration
	spec    api.Spec
	next    api.Spec // zero, if none is being built
	left    int
	changes []api.Change // the numbers 1 to Seq
	safe    int
	// last is the change whose call answered ErrDiskDown first, since the disk did, if it was not done.
	last    []api.Change
	down    bool
	crashed bool // since the engine was opened
}

// ways are texts of specs that may be for every dimension that 2 divides.
func ways() map[string]api.Spec {
	return map[string]api.Spec{
		"Flat":        {Kind: api.KindFlat},
		"KD1":         {Kind: api.KindKd, Size: 1},
		"KD64":        {Kind: api.KindKd, Size: 64},
		"VP1":         {Kind: api.KindVp, Size: 1},
		"VP3":         {Kind: api.KindVp, Size: 3},
		"IVF4,Flat":   {Kind: api.KindIvf, Size: 4},
		"IVF64,Flat":  {Kind: api.KindIvf, Size: 64},
		"IVF3,PQ2x4":  {Kind: api.KindPq, Size: 3, Parts: 2, Codes: 4},
		"IVF5,PQ1x16": {Kind: api.KindPq, Size: 5, Parts: 1, Codes: 16},
		"HNSW1":       {Kind: api.KindHnsw, Size: 1},
		"HNSW16":      {Kind: api.KindHnsw, Size: 16},
	}
}

// texts are these by their order.
func texts() []string {
	var l []string
	for text := range ways() {
		l = append(l, text)
	}
	slices.Sort(l)
	return l
}

// rows are those that there are, by rising ids.
func (p *plain) rows() []api.Row {
	var rows []api.Row
	seen := map[int]bool{}
	for _, c := range slices.Backward(p.changes) {
		if !seen[c.Id] && c.Kind == api.ChangePut {
			rows = append(rows, api.Row{Id: c.Id, V: c.V})
		}
		seen[c.Id] = true
	}
	slices.SortFunc(rows, func(a, b api.Row) int { return cmp.Compare(a.Id, b.Id) })
	return rows
}

func (p *plain) has(id int) bool {
	return slices.ContainsFunc(p.rows(), func(r api.Row) bool { return r.Id == id })
}

// wrong is the error that is told ahead of the disk's.
func (p *plain) wrong(c api.Change) api.Errno {
	if c.Kind == api.ChangeDelete {
		if p.has(c.Id) {
			return api.OK
		}
		return api.ErrStoreNone
	}
	if c.Id < 1 || c.Id > 1000000000 {
		return api.ErrFlatId
	}
	if e := wrongVector(c.V, p.dim); e != api.OK {
		return e
	}
	if !p.has(c.Id) && len(p.rows()) == 512 {
		return api.ErrStoreMany
	}
	return api.OK
}

func wrongVector(v []int, dim int) api.Errno {
	if len(v) != dim {
		return api.ErrVecDim
	}
	for _, x := range v {
		if x < -2147483647 || x > 2147483647 {
			return api.ErrVecCoord
		}
	}
	return api.OK
}

func (p *plain) wrongQuery(q api.Query) api.Errno {
	if e := wrongVector(q.V, p.dim); e != api.OK {
		return e
	}
	if q.K < 1 || q.K > 64 {
		return api.ErrArg
	}
	most, is := map[api.Mode]int{1: 0, 2: 1000000}[q.Mode]
	if !is {
		return api.ErrEngineMode
	}
	if q.Budget < 0 || q.Budget > most {
		return api.ErrArg
	}
	return api.OK
}

// firstOf are the first k of some rows for v.
func firstOf(rows []api.Row, v []int, k int) []api.Hit {
	var hits []api.Hit
	for _, row := range rows {
		hits = append(hits, api.Hit{Id: row.Id, Dist: far(row.V, v)})
	}
	slices.SortFunc(hits, func(a, b api.Hit) int {
		return cmp.Or(cmp.Compare(a.Dist.Hi, b.Dist.Hi), cmp.Compare(a.Dist.Lo, b.Dist.Lo), cmp.Compare(a.Id, b.Id))
	})
	return hits[:min(k, len(hits))]
}

func far(a, b []int) api.Wide {
	sum := big.NewInt(0)
	for i := range a {
		x := big.NewInt(int64(a[i] - b[i]))
		sum.Add(sum, x.Mul(x, x))
	}
	hi := new(big.Int).Rsh(sum, 64)
	return api.Wide{Hi: hi.Uint64(), Lo: new(big.Int).And(sum, big.NewInt(0).SetUint64(1<<64-1)).Uint64()}
}

// told is an engine, the chapter's words about it, and what was done so far.
type told struct {
	t     *testing.T
	d     *disk.Disk
	g     *Engine
	p     plain
	seed  uint64
	story []string
}

// newTold is an engine on a new disk with that room, which has yet to be opened.
func newTold(t *testing.T, room, dim int, way string) *told {
	t.Helper()
	h := &told{t: t, d: newDisk(t, room), p: plain{dim: dim, first: ways()[way]}, seed: 7}
	h.note("room %d, dimension %d, %s", room, dim, way)
	return h
}

func (h *told) note(text string, a ...any) { h.story = append(h.story, fmt.Sprintf(text, a...)) }

func (h *told) fail(text string, a ...any) {
	h.t.Helper()
	h.t.Fatalf("%v: %s", h.story, fmt.Sprintf(text, a...))
}

// open opens the engine, if the disk lets it.
func (h *told) open() api.Errno {
	h.t.Helper()
	g, e := Open(h.d, api.Config{Dim: h.p.dim, Spec: h.p.first, Seed: h.seed})
	h.note("open: %d", e)
	if (g == nil) != (e != api.OK) {
		h.fail("P21.1: %v", g)
	}
	if e != api.OK {
		return e
	}
	h.g = g
	h.reopened()
	h.check()
	return e
}

// reopened holds how many changes there are against those that were safe, and goes on from there.
func (h *told) reopened() {
	h.t.Helper()
	p := &h.p
	if p.crashed {
		p.changes = append(p.changes, p.last...)
	} else {
		p.safe = len(p.changes)
	}
	n := h.g.Stats().Seq
	if n < p.safe || n > len(p.changes) {
		h.fail("P21.8: Seq %d, want %d to %d", n, p.safe, len(p.changes))
	}
	p.changes, p.safe = p.changes[:n], n
	p.last, p.down, p.crashed = nil, false, false
	p.spec, p.next, p.left = p.first, api.Spec{}, 0
	if h.g.Stats().Safe != n {
		h.fail("P21.7: Safe %d behind Open, Seq %d", h.g.Stats().Safe, n)
	}
}

func (h *told) stop(steps int) api.Errno {
	h.note("stop(%d)", steps)
	return h.d.Stop(steps)
}

func (h *told) crash(choices ...int) {
	h.note("crash%v", choices)
	h.d.Crash(choices...)
	h.p.crashed = true
}

func (h *told) put(id int, v ...int) api.Errno {
	h.t.Helper()
	n, e := h.g.Put(api.Row{Id: id, V: v})
	return h.changed(api.Change{Kind: api.ChangePut, Id: id, V: v}, n, e)
}

func (h *told) delete(id int) api.Errno {
	h.t.Helper()
	n, e := h.g.Delete(id)
	return h.changed(api.Change{Kind: api.ChangeDelete, Id: id}, n, e)
}

// changed holds what a change has answered against P21.2. What comes of the disk is answered; of what the chapter refuses nothing.
func (h *told) changed(c api.Change, n int, e api.Errno) api.Errno {
	h.t.Helper()
	p := &h.p
	h.note("%s: %d, %d", brief(c), n, e)
	if wrong := p.wrong(c); wrong != api.OK {
		if n != 0 || e != wrong {
			h.fail("P21.2: want %d", wrong)
		}
		h.check()
		return api.OK
	}
	// With a disk's error the change may be done: its Sync has failed then.
	isDone := e == api.OK || h.g.Stats().Seq > len(p.changes)
	if isDone {
		p.changes = append(p.changes, c)
	}
	if isDone && p.next != (api.Spec{}) {
		p.left++
	}
	h.answered(e, c, isDone)
	want := 0
	if e == api.OK {
		want = len(p.changes)
	}
	if n != want {
		h.fail("P21.2: want %d", want)
	}
	h.check()
	return e
}

// answered is what a call that the disk may refuse has answered, to which a change belongs, if its kind is not 0.
func (h *told) answered(e api.Errno, c api.Change, isDone bool) {
	h.t.Helper()
	p := &h.p
	if e == api.OK {
		p.safe = len(p.changes)
	}
	if e == api.ErrDiskDown && !p.down && c.Kind != 0 && !isDone {
		p.last = []api.Change{c}
	}
	p.down = p.down || e == api.ErrDiskDown
	if s := h.g.Stats(); e == api.OK && s.Safe != s.Seq {
		h.fail("P21.7: Safe %d, Seq %d", s.Safe, s.Seq)
	}
}

func (h *told) snapshot() api.Errno {
	h.t.Helper()
	e := h.g.Snapshot()
	h.note("snapshot: %d", e)
	h.answered(e, api.Change{}, false)
	h.check()
	if most := 3*8*h.p.dim*len(h.p.rows()) + 200000; e == api.OK && sizes(h.d) > most {
		h.fail("P21.6: the files have %d bytes, want at most %d", sizes(h.d), most)
	}
	return e
}

// reindex is with a text that ways has, and that may be of the dimension.
func (h *told) reindex(text string) api.Errno {
	h.t.Helper()
	e := h.g.Reindex(text)
	h.note("reindex(%s): %d", text, e)
	want := api.OK
	if ways()[text].Parts > 1 && h.p.dim%2 == 1 {
		want = api.ErrPqParts
	} else if h.p.next != (api.Spec{}) {
		want = api.ErrEngineBusy
	}
	if e != want {
		h.fail("P21.5: want %d", want)
	}
	if e == api.OK {
		h.p.next, h.p.left = ways()[text], len(h.p.rows())
	}
	h.check()
	return api.OK
}

func (h *told) step(n int) api.Errno {
	h.t.Helper()
	done, e := h.g.Step(n)
	h.note("step(%d): %v, %d", n, done, e)
	p := &h.p
	want := api.OK
	if n < 1 || n > 1000 {
		want = api.ErrArg
	} else if p.next == (api.Spec{}) {
		want = api.ErrEngineIdle
	}
	if e != want || done != (e == api.OK && n >= p.left) {
		h.fail("P21.5: want %d, %d were left", want, p.left)
	}
	if done {
		p.spec, p.next, p.left = p.next, api.Spec{}, 0
	} else if e == api.OK {
		p.left -= n
	}
	h.check()
	return api.OK
}

func (h *told) drop() api.Errno {
	h.t.Helper()
	e := h.g.Drop()
	h.note("drop: %d", e)
	want := api.OK
	if h.p.next == (api.Spec{}) {
		want = api.ErrEngineIdle
	}
	if e != want {
		h.fail("P21.5: want %d", want)
	}
	h.p.next, h.p.left = api.Spec{}, 0
	h.check()
	return api.OK
}

// query holds what is answered against P21.4.
func (h *told) query(q api.Query) api.Errno {
	h.t.Helper()
	r, e := h.g.Query(q)
	h.note("query(%s): %d", brief(q), e)
	if want := h.p.wrongQuery(q); want != api.OK {
		if e != want || !reflect.DeepEqual(r, api.Result{}) {
			h.fail("P21.4: %v, %d: want %d", r, e, want)
		}
		return api.OK
	}
	if e != api.OK || r.Spec != h.p.spec {
		h.fail("P21.4: %v, %d: want of %v", r, e, h.p.spec)
	}
	want, exact := firstOf(h.p.rows(), q.V, q.K), true
	if q.Mode == api.ModeFast {
		want, exact = h.fast(q, want)
	}
	if r.Exact != exact || !slices.Equal(r.Hits, want) {
		h.fail("P21.4: %s: want %v, %v", brief(r), brief(want), exact)
	}
	return api.OK
}

// fast is what is to be answered: as the index answers, asked again, of as many rows as may be looked at. The first are the first k of all rows.
func (h *told) fast(q api.Query, first []api.Hit) ([]api.Hit, bool) {
	h.t.Helper()
	rows := h.p.rows()
	may := min(q.Budget, len(rows))
	a, e := h.g.index.Search(q.V, q.K, may)
	certain, wrong := cert.Certain(rows, q.V, q.K, a)
	if e != api.OK || wrong != api.OK || len(a.Seen) > may || !certain && len(a.Seen) < may {
		h.fail("P21.4: the index answers %s, %d, %d", brief(a), e, wrong)
	}
	seen := slices.DeleteFunc(rows, func(r api.Row) bool { return !slices.Contains(a.Seen, r.Id) })
	hits := firstOf(seen, q.V, q.K)
	if certain && !slices.Equal(hits, first) {
		h.fail("T3: %v is told as certain, want %v", hits, first)
	}
	return hits, certain
}

// check holds what the engine tells now against the chapter.
func (h *told) check() {
	h.t.Helper()
	p, s, want := &h.p, h.g.Stats(), h.p.rows()
	if s.Safe < p.safe || s.Safe > s.Seq {
		h.fail("P21.7: Safe %d, want at least %d", s.Safe, p.safe)
	}
	p.safe = s.Safe
	if s != (api.Stats{Rows: len(want), Seq: len(p.changes), Safe: p.safe, Spec: p.spec, Next: p.next, Left: p.left}) {
		h.fail("P21.7: %+v: want %d rows, Seq %d, %v, %v, Left %d", s, len(want), len(p.changes), p.spec, p.next, p.left)
	}
	if rows := h.g.Rows(); len(rows)+len(want) > 0 && !reflect.DeepEqual(rows, want) {
		h.fail("P21.3: %s: want %s", brief(rows), brief(want))
	}
	if rows := h.g.index.Rows(); len(rows)+len(want) > 0 && !reflect.DeepEqual(rows, want) {
		h.fail("T7: the index has %s: want %s", brief(rows), brief(want))
	}
	for _, r := range want {
		if v, e := h.g.Get(r.Id); e != api.OK || !slices.Equal(v, r.V) {
			h.fail("P21.3: Get(%d): %v, %d, want %v", r.Id, v, e, r.V)
		}
	}
	for id := range 8 {
		if v, e := h.g.Get(id); !p.has(id) && (v != nil || e != api.ErrStoreNone) {
			h.fail("P21.3: Get(%d): %v, %d, want none", id, v, e)
		}
	}
}

// copied is another one on a disk like this one, which goes on by itself. (Its engine is to be opened.)
func (h *told) copied() *told {
	c := *h
	c.d = h.d.Clone()
	c.p.changes = slices.Clone(h.p.changes)
	c.story = slices.Clone(h.story)
	return &c
}

// brief is x as a text that is not too long to be read.
func brief(x any) string { return fmt.Sprintf("%.200s", fmt.Sprint(x)) }

// sizes is how many bytes the disk's files have in all.
func sizes(d *disk.Disk) int {
	size := 0
	for _, name := range d.Names() {
		b, _ := d.Read(name)
		size += len(b)
	}
	return size
}

// drawn is a stream of numbers that the seed tells.
func drawn(seed uint64) func(int) int {
	return func(n int) int {
		seed = seed*6364136223846793005 + 1442695040888963407
		return int((seed >> 33) % uint64(n))
	}
}

func newDisk(t *testing.T, room int) *disk.Disk {
	t.Helper()
	d, e := disk.New(room)
	if d == nil || e != api.OK {
		t.Fatalf("disk.New: %d", e)
	}
	return d
}
