package engine

import (
	"math"
	"reflect"
	"slices"
	"testing"

	"theodolite/api"
	"theodolite/backend"
	"theodolite/disk"
)

func row(id int, v ...int) api.Row { return api.Row{Id: id, V: v} }

func hit(id int, far uint64) api.Hit { return api.Hit{Id: id, Dist: api.Wide{Lo: far}} }

func exact(k int, v ...int) api.Query { return api.Query{V: v, K: k, Mode: api.ModeExact} }

func fast(k, budget int, v ...int) api.Query {
	return api.Query{V: v, K: k, Mode: api.ModeFast, Budget: budget}
}

func config(dim int, way string) api.Config {
	return api.Config{Dim: dim, Spec: ways()[way], Seed: 7}
}

func opened(t *testing.T, d *disk.Disk, c api.Config) *Engine {
	t.Helper()
	g, e := Open(d, c)
	if g == nil || e != api.OK {
		t.Fatalf("P21.1: Open: %v, %d", g, e)
	}
	return g
}

// fresh is an engine on a new disk.
func fresh(t *testing.T, dim int, way string) *Engine {
	t.Helper()
	return opened(t, newDisk(t, api.MaxRoom), config(dim, way))
}

func openFails(t *testing.T, d *disk.Disk, c api.Config, want api.Errno) {
	t.Helper()
	if g, e := Open(d, c); g != nil || e != want {
		t.Errorf("P21.1: Open with %+v: %v, %d: want %d", c, g, e, want)
	}
}

func putIs(t *testing.T, g *Engine, r api.Row, want int, wrong api.Errno) {
	t.Helper()
	if n, e := g.Put(r); n != want || e != wrong {
		t.Fatalf("P21.2: Put(%s): %d, %d: want %d, %d", brief(r), n, e, want, wrong)
	}
}

func deleteIs(t *testing.T, g *Engine, id int, want int, wrong api.Errno) {
	t.Helper()
	if n, e := g.Delete(id); n != want || e != wrong {
		t.Fatalf("P21.2: Delete(%d): %d, %d: want %d, %d", id, n, e, want, wrong)
	}
}

func queryIs(t *testing.T, g *Engine, q api.Query, isExact bool, way string, want ...api.Hit) {
	t.Helper()
	r, e := g.Query(q)
	if e != api.OK || r.Exact != isExact || r.Spec != ways()[way] || !slices.Equal(r.Hits, want) {
		t.Fatalf("P21.4: Query(%s): %+v, %d: want %v, %v, %s", brief(q), r, e, want, isExact, way)
	}
}

func queryFails(t *testing.T, g *Engine, q api.Query, want api.Errno) {
	t.Helper()
	if r, e := g.Query(q); e != want || !reflect.DeepEqual(r, api.Result{}) {
		t.Errorf("P21.4: Query(%+v): %+v, %d: want %d", q, r, e, want)
	}
}

func stepIs(t *testing.T, g *Engine, n int, want bool, wrong api.Errno) {
	t.Helper()
	if done, e := g.Step(n); done != want || e != wrong {
		t.Fatalf("P21.5: Step(%d): %v, %d: want %v, %d", n, done, e, want, wrong)
	}
}

func is(t *testing.T, promise string, got, want api.Errno) {
	t.Helper()
	if got != want {
		t.Fatalf("%s: %d: want %d", promise, got, want)
	}
}

func statsAre(t *testing.T, g *Engine, want api.Stats) {
	t.Helper()
	if got := g.Stats(); got != want {
		t.Fatalf("P21.7: %+v: want %+v", got, want)
	}
}

func rowsAre(t *testing.T, g *Engine, want ...api.Row) {
	t.Helper()
	if rows := g.Rows(); len(rows)+len(want) > 0 && !reflect.DeepEqual(rows, want) {
		t.Fatalf("P21.3: %s: want %s", brief(rows), brief(want))
	}
	for _, r := range want {
		if v, e := g.Get(r.Id); e != api.OK || !slices.Equal(v, r.V) {
			t.Fatalf("P21.3: Get(%d): %v, %d: want %v", r.Id, v, e, r.V)
		}
	}
}

func getFails(t *testing.T, g *Engine, ids ...int) {
	t.Helper()
	for _, id := range ids {
		if v, e := g.Get(id); v != nil || e != api.ErrStoreNone {
			t.Errorf("P21.3: Get(%d): %v, %d", id, v, e)
		}
	}
}

// three is an engine with the rows 1: 0, 2: 5 and 3: 9.
func three(t *testing.T, way string) *Engine {
	t.Helper()
	g := fresh(t, 1, way)
	for i, x := range []int{0, 5, 9} {
		putIs(t, g, row(i+1, x), i+1, api.OK)
	}
	return g
}

// The chapter's table, line by line.
func TestExamples(t *testing.T) {
	g := three(t, "KD1")
	deleteIs(t, g, 7, 0, api.ErrStoreNone)
	queryIs(t, g, exact(2, 1), true, "KD1", hit(1, 1), hit(2, 16))
	queryIs(t, g, fast(2, 0, 1), false, "KD1")
	is(t, "P21.5", g.Reindex("HNSW16"), api.OK)
	is(t, "P21.5", g.Reindex("Flat"), api.ErrEngineBusy)
	statsAre(t, g, api.Stats{Rows: 3, Seq: 3, Safe: 3, Spec: ways()["KD1"], Next: ways()["HNSW16"], Left: 3})
	stepIs(t, g, 2, false, api.OK)
	putIs(t, g, row(4, 1), 4, api.OK)
	stepIs(t, g, 0, false, api.ErrArg)
	stepIs(t, g, 9, true, api.OK)
	stepIs(t, g, 1, false, api.ErrEngineIdle)
	statsAre(t, g, api.Stats{Rows: 4, Seq: 4, Safe: 4, Spec: ways()["HNSW16"]})
	queryIs(t, g, exact(1, 1), true, "HNSW16", hit(4, 0))
}

// An engine that no call gave has nothing, and says so ahead of all that is wrong otherwise.
func TestNil(t *testing.T) {
	for _, g := range []*Engine{nil, {}} {
		putIs(t, g, row(0), 0, api.ErrNil)
		putIs(t, g, row(1, 1), 0, api.ErrNil)
		deleteIs(t, g, 1, 0, api.ErrNil)
		if v, e := g.Get(1); v != nil || e != api.ErrNil {
			t.Errorf("R3: Get: %v, %d", v, e)
		}
		if rows := g.Rows(); len(rows) != 0 {
			t.Errorf("R3: Rows: %v", rows)
		}
		queryFails(t, g, api.Query{}, api.ErrNil)
		queryFails(t, g, exact(1, 1), api.ErrNil)
		is(t, "R3", g.Reindex("Flat"), api.ErrNil)
		is(t, "R3", g.Reindex(""), api.ErrNil)
		stepIs(t, g, 0, false, api.ErrNil)
		stepIs(t, g, 1, false, api.ErrNil)
		is(t, "R3", g.Drop(), api.ErrNil)
		is(t, "R3", g.Snapshot(), api.ErrNil)
		statsAre(t, g, api.Stats{})
	}
}

// Of several faults the first is told, and the disk is left as it is.
func TestOpenErrors(t *testing.T) {
	d := newDisk(t, api.MaxRoom)
	stopped := newDisk(t, api.MaxRoom)
	is(t, "disk", stopped.Stop(0), api.OK)
	spoilt := newDisk(t, api.MaxRoom)
	is(t, "disk", spoilt.Create("rows"), api.OK)
	pq := func(parts int) api.Spec { return api.Spec{Kind: api.KindPq, Size: 1, Parts: parts, Codes: 1} }
	wrong := []struct {
		s    api.Spec
		want api.Errno
	}{{api.Spec{}, api.ErrSpecForm}, {api.Spec{Kind: 7}, api.ErrSpecForm}, {api.Spec{Kind: api.KindKd}, api.ErrSpecNum}, {api.Spec{Kind: api.KindFlat, Size: 1}, api.ErrSpecNum}, {pq(9), api.ErrSpecNum}}
	for _, dim := range []int{math.MinInt, -1, 0, 1, 64, 65, math.MaxInt} {
		for _, x := range wrong {
			openFails(t, nil, api.Config{Dim: dim, Spec: x.s}, api.ErrNil)
			openFails(t, &disk.Disk{}, api.Config{Dim: dim, Spec: x.s}, api.ErrNil)
			for _, d := range []*disk.Disk{d, stopped, spoilt} {
				openFails(t, d, api.Config{Dim: dim, Spec: x.s}, x.want)
			}
		}
		if dim >= 1 && dim <= 64 {
			continue
		}
		for _, s := range []api.Spec{ways()["Flat"], pq(3), ways()["HNSW16"]} {
			for _, d := range []*disk.Disk{d, stopped, spoilt} {
				openFails(t, d, api.Config{Dim: dim, Spec: s}, api.ErrVecDim)
			}
		}
	}
	for _, d := range []*disk.Disk{d, stopped, spoilt} {
		openFails(t, d, api.Config{Dim: 4, Spec: pq(3)}, api.ErrPqParts)
		openFails(t, d, api.Config{Dim: 1, Spec: pq(2)}, api.ErrPqParts)
		openFails(t, d, api.Config{Dim: 7, Spec: pq(8)}, api.ErrPqParts)
	}
	openFails(t, nil, config(2, "KD1"), api.ErrNil)
	openFails(t, stopped, config(2, "KD1"), api.ErrDiskDown)
	openFails(t, spoilt, config(2, "KD1"), api.ErrStoreSpoilt)
	if d.Steps() != 0 || spoilt.Steps() != 1 {
		t.Errorf("P21.1: %d and %d steps", d.Steps(), spoilt.Steps())
	}
}

// What may be is opened: all dimensions, with all kinds, whatever the room and the seed.
func TestOpen(t *testing.T) {
	for _, dim := range []int{1, 2, 63, 64} {
		for way, s := range ways() {
			if s.Parts > 0 && dim%s.Parts != 0 {
				continue
			}
			for _, seed := range []uint64{0, math.MaxUint64} {
				d := newDisk(t, api.MaxRoom)
				g := opened(t, d, api.Config{Dim: dim, Spec: s, Seed: seed, Room: -int(seed >> 1)})
				rowsAre(t, g)
				statsAre(t, g, api.Stats{Spec: s})
				stepIs(t, g, 1, false, api.ErrEngineIdle)
				v := slices.Repeat([]int{3}, dim)
				queryIs(t, g, exact(1, v...), true, way)
				queryIs(t, g, fast(1, 0, v...), true, way)
				putIs(t, g, row(9, v...), 1, api.OK)
				g = opened(t, d, api.Config{Dim: dim, Spec: s, Seed: seed, Room: math.MaxInt})
				rowsAre(t, g, row(9, v...))
				queryIs(t, g, exact(1, v...), true, way, hit(9, 0))
			}
		}
	}
}

// What is put and deleted is found, or not, by each way, and is safe behind the call.
func TestChanges(t *testing.T) {
	for way := range ways() {
		d := newDisk(t, api.MaxRoom)
		g := opened(t, d, config(2, way))
		next := func(seq int) {
			t.Helper()
			s := g.Stats()
			if s.Seq != seq || s.Safe != seq {
				t.Fatalf("P21.7: %+v: want Seq and Safe %d", s, seq)
			}
			x := d.Clone()
			is(t, "disk", x.Crash(), api.OK)
			rowsAre(t, opened(t, x, config(2, "Flat")), g.Rows()...)
		}
		putIs(t, g, row(5, 3, 4), 1, api.OK)
		next(1)
		putIs(t, g, row(2, 6, 8), 2, api.OK)
		next(2)
		queryIs(t, g, exact(3, 0, 0), true, way, hit(5, 25), hit(2, 100))
		putIs(t, g, row(5, 30, 40), 3, api.OK)
		next(3)
		queryIs(t, g, exact(3, 0, 0), true, way, hit(2, 100), hit(5, 2500))
		rowsAre(t, g, row(2, 6, 8), row(5, 30, 40))
		deleteIs(t, g, 2, 4, api.OK)
		next(4)
		queryIs(t, g, exact(3, 0, 0), true, way, hit(5, 2500))
		deleteIs(t, g, 2, 0, api.ErrStoreNone)
		getFails(t, g, 2, 0, -1, 6, math.MaxInt)
		deleteIs(t, g, 5, 5, api.OK)
		rowsAre(t, g)
		queryIs(t, g, exact(3, 0, 0), true, way)
	}
}

// What may not be changes nothing, and is told ahead of the disk's error.
func TestChangeErrors(t *testing.T) {
	d := newDisk(t, api.MaxRoom)
	g := opened(t, d, config(2, "KD1"))
	putIs(t, g, row(1, 3, 4), 1, api.OK)
	is(t, "P21.5", g.Reindex("VP1"), api.OK)
	steps := d.Steps()
	for _, stop := range []bool{false, true} {
		if stop {
			is(t, "disk", d.Stop(0), api.OK)
		}
		for _, id := range []int{math.MinInt, -1, 0, api.MaxId + 1, math.MaxInt} {
			putIs(t, g, row(id, 1, 1), 0, api.ErrFlatId)
			putIs(t, g, row(id), 0, api.ErrFlatId)
			deleteIs(t, g, id, 0, api.ErrStoreNone)
		}
		for _, v := range [][]int{nil, {1}, {1, 1, 1}, {math.MaxInt}} {
			putIs(t, g, row(1, v...), 0, api.ErrVecDim)
		}
		putIs(t, g, row(1, 1, api.MaxCoord+1), 0, api.ErrVecCoord)
		putIs(t, g, row(2, math.MinInt, 1), 0, api.ErrVecCoord)
		deleteIs(t, g, 2, 0, api.ErrStoreNone)
		rowsAre(t, g, row(1, 3, 4))
		queryIs(t, g, exact(9, 0, 0), true, "KD1", hit(1, 25))
		statsAre(t, g, api.Stats{Rows: 1, Seq: 1, Safe: 1, Spec: ways()["KD1"], Next: ways()["VP1"], Left: 1})
	}
	if d.Steps() != steps {
		t.Errorf("P21.2: %d steps", d.Steps()-steps)
	}
	putIs(t, g, row(1, 5, 5), 0, api.ErrDiskDown)
	putIs(t, g, row(2, 5, 5), 0, api.ErrDiskDown)
	deleteIs(t, g, 1, 0, api.ErrDiskDown)
	is(t, "P21.6", g.Snapshot(), api.ErrDiskDown)
	rowsAre(t, g, row(1, 3, 4))
	queryIs(t, g, exact(9, 0, 0), true, "KD1", hit(1, 25))
	statsAre(t, g, api.Stats{Rows: 1, Seq: 1, Safe: 1, Spec: ways()["KD1"], Next: ways()["VP1"], Left: 1})
	stepIs(t, g, 1, true, api.OK)
	queryIs(t, g, exact(9, 0, 0), true, "VP1", hit(1, 25))
}

// A change that the disk keeps from being safe is done all the same, if the store has done it.
func TestUnsafe(t *testing.T) {
	done := 0
	for steps := range 4 {
		h := newTold(t, api.MaxRoom, 1, "KD1")
		is(t, "P21.1", h.open(), api.OK)
		is(t, "P21.2", h.put(1, 5), api.OK)
		is(t, "P21.2", h.put(2, 7), api.OK)
		h.reindex("VP1")
		is(t, "disk", h.stop(steps), api.OK)
		e := h.put(3, 6)
		for _, act := range []func() api.Errno{func() api.Errno { return h.put(1, 6) }, func() api.Errno { return h.delete(2) }, h.snapshot} {
			if e == api.OK {
				e = act()
			}
		}
		is(t, "P21.2", e, api.ErrDiskDown)
		if s := h.g.Stats(); s.Seq > s.Safe {
			done++
		}
		h.query(exact(3, 6))
		h.step(1000)
		h.query(exact(3, 6))
	}
	if done == 0 {
		t.Error("P21.2: no change was done whose Sync has failed")
	}
}

// A disk without room refuses changes and snapshots, and what is there stays.
func TestFull(t *testing.T) {
	d := newDisk(t, 200)
	g := opened(t, d, config(1, "KD1"))
	n := 0
	var e api.Errno
	for e == api.OK && n < 100 {
		n++
		_, e = g.Put(row(n, n))
	}
	is(t, "P21.2", e, api.ErrDiskFull)
	rows := g.Rows()
	if len(rows) != n-1 {
		t.Errorf("P21.2: %d rows behind %d changes", len(rows), n-1)
	}
	deleteIs(t, g, 1, 0, api.ErrDiskFull)
	is(t, "P21.6", g.Snapshot(), api.ErrDiskFull)
	rowsAre(t, g, rows...)
	queryIs(t, g, exact(1, 0), true, "KD1", hit(1, 1))
	statsAre(t, g, api.Stats{Rows: n - 1, Seq: n - 1, Safe: n - 1, Spec: ways()["KD1"]})
	rowsAre(t, opened(t, d, config(1, "KD1")), rows...)
}

func TestQueryErrors(t *testing.T) {
	g := three(t, "KD1")
	modes := []api.Mode{math.MinInt, -1, 0, api.ModeExact, api.ModeFast, 3, math.MaxInt}
	for _, mode := range modes {
		for _, k := range []int{math.MinInt, 0, 1, 65} {
			for _, budget := range []int{math.MinInt, -1, 0, 1, 1000001} {
				for _, v := range [][]int{nil, {1, 1}, {math.MaxInt, 1}} {
					queryFails(t, g, api.Query{V: v, K: k, Mode: mode, Budget: budget}, api.ErrVecDim)
				}
				for _, x := range []int{math.MinInt, -api.MaxCoord - 1, api.MaxCoord + 1, math.MaxInt} {
					queryFails(t, g, api.Query{V: []int{x}, K: k, Mode: mode, Budget: budget}, api.ErrVecCoord)
				}
				if k != 1 {
					queryFails(t, g, api.Query{V: []int{1}, K: k, Mode: mode, Budget: budget}, api.ErrArg)
				} else if mode != api.ModeExact && mode != api.ModeFast {
					queryFails(t, g, api.Query{V: []int{1}, K: k, Mode: mode, Budget: budget}, api.ErrEngineMode)
				}
			}
		}
	}
	for _, budget := range []int{math.MinInt, -1, 1, 2, 1000001, math.MaxInt} {
		queryFails(t, g, api.Query{V: []int{1}, K: 1, Mode: api.ModeExact, Budget: budget}, api.ErrArg)
	}
	for _, budget := range []int{math.MinInt, -1, 1000001, math.MaxInt} {
		queryFails(t, g, fast(1, budget, 1), api.ErrArg)
	}
	queryIs(t, g, exact(64, api.MaxCoord), true, "KD1", hit(3, (1<<31-10)*(1<<31-10)), hit(2, (1<<31-6)*(1<<31-6)), hit(1, (1<<31-1)*(1<<31-1)))
	queryIs(t, g, fast(64, 1000000, 5), true, "KD1", hit(2, 0), hit(3, 16), hit(1, 25))
}

// Who asks fast is told that an answer is exact just if it is certain, though few rows were looked at.
func TestFast(t *testing.T) {
	g := three(t, "KD1")
	queryIs(t, g, fast(1, 1, 1), true, "KD1", hit(1, 1))
	queryIs(t, g, fast(1, 1, 10), true, "KD1", hit(3, 1))
	queryIs(t, g, fast(2, 1, 10), false, "KD1", hit(3, 1))
	queryIs(t, g, fast(2, 2, 10), true, "KD1", hit(3, 1), hit(2, 25))
	queryIs(t, g, fast(1, 3, 10), true, "KD1", hit(3, 1))
	queryIs(t, g, fast(3, 2, 10), false, "KD1", hit(3, 1), hit(2, 25))
	queryIs(t, g, fast(4, 3, 10), true, "KD1", hit(3, 1), hit(2, 25), hit(1, 100))
	// All that Flat has not seen may be anywhere.
	g = three(t, "Flat")
	queryIs(t, g, fast(1, 1, 0), false, "Flat", hit(1, 0))
	queryIs(t, g, fast(1, 2, 9), false, "Flat", hit(2, 16))
	queryIs(t, g, fast(1, 3, 9), true, "Flat", hit(3, 0))
}

// Whatever the index answers: who demands exactness gets the first k of the rows that there are, by looking at all of them, if need be.
func TestExactWithoutIndex(t *testing.T) {
	g := three(t, "KD1")
	for _, rows := range [][]api.Row{nil, {row(1, 0)}, {row(1, 0), row(2, 6), row(3, 9)}, {row(1, 0), row(2, 5), row(3, 9), row(4, 1)}} {
		g.index, _ = backend.Build(ways()["VP1"], 1, rows, 7)
		queryIs(t, g, exact(2, 1), true, "Flat", hit(1, 1), hit(2, 16))
		if r, e := g.Query(fast(2, 3, 1)); e != api.OK || r.Exact {
			t.Errorf("T3: %+v, %d", r, e)
		}
	}
}

func TestReindexErrors(t *testing.T) {
	g := fresh(t, 3, "KD1")
	wrong := map[string]api.Errno{"": api.ErrSpecForm, "kd1": api.ErrSpecForm, "KD0": api.ErrSpecNum, "KD65": api.ErrSpecNum, "IVF1": api.ErrSpecForm, "IVF1,PQ9x1": api.ErrSpecNum, "IVF1,PQ2x4": api.ErrPqParts, "IVF1,PQ4x4": api.ErrPqParts, "Flat ": api.ErrSpecForm}
	for range 2 {
		for text, want := range wrong {
			is(t, "P21.5: Reindex("+text+")", g.Reindex(text), want)
		}
		if g.Stats().Next == (api.Spec{}) {
			stepIs(t, g, 1, false, api.ErrEngineIdle)
			is(t, "P21.5", g.Drop(), api.ErrEngineIdle)
			is(t, "P21.5", g.Reindex("IVF2,PQ3x2"), api.OK)
		}
	}
	is(t, "P21.5", g.Reindex("Flat"), api.ErrEngineBusy)
	statsAre(t, g, api.Stats{Spec: ways()["KD1"], Next: api.Spec{Kind: api.KindPq, Size: 2, Parts: 3, Codes: 2}})
	for _, n := range []int{math.MinInt, -1, 0, 1001, math.MaxInt} {
		stepIs(t, g, n, false, api.ErrArg)
	}
	stepIs(t, g, 1000, true, api.OK)
	for _, n := range []int{math.MinInt, -1, 0, 1001, math.MaxInt} {
		stepIs(t, g, n, false, api.ErrArg)
	}
	stepIs(t, g, 1000, false, api.ErrEngineIdle)
	is(t, "P21.5", g.Drop(), api.ErrEngineIdle)
}

// Nothing is left of no rows; but the new index is asked only behind a Step.
func TestReindexNothing(t *testing.T) {
	for way := range ways() {
		g := fresh(t, 2, "VP3")
		is(t, "P21.5", g.Reindex(way), api.OK)
		statsAre(t, g, api.Stats{Spec: ways()["VP3"], Next: ways()[way]})
		queryIs(t, g, exact(1, 0, 0), true, "VP3")
		stepIs(t, g, 1, true, api.OK)
		statsAre(t, g, api.Stats{Spec: ways()[way]})
		queryIs(t, g, exact(1, 0, 0), true, way)
		putIs(t, g, row(1, 3, 4), 1, api.OK)
		queryIs(t, g, exact(1, 0, 0), true, way, hit(1, 25))
	}
}

// Each change counts, as long as the engine is being built anew: also of a row that is there or was, but not one that is refused. The old index knows of all.
func TestLeft(t *testing.T) {
	for _, way := range texts() {
		h := newTold(t, api.MaxRoom, 2, "KD1")
		is(t, "P21.1", h.open(), api.OK)
		h.put(1, 0, 0)
		h.put(2, 5, 5)
		h.put(3, 9, 9)
		h.reindex(way)
		h.put(1, 7, 7)
		h.put(1, 7, 7)
		h.delete(2)
		h.delete(2)
		h.put(0, 1, 1)
		h.put(2, 6, 6)
		if left := h.g.Stats().Left; left != 7 {
			t.Fatalf("P21.7: Left %d, want 7", left)
		}
		for range 3 {
			h.step(2)
			h.nearest()
			h.snapshot()
		}
		if s := h.g.Stats(); s.Left != 1 || s.Spec != ways()["KD1"] {
			t.Fatalf("P21.7: %+v", s)
		}
		h.delete(3)
		h.nearest()
		h.step(2)
		h.nearest()
		if s := h.g.Stats(); s.Left != 0 || s.Spec != ways()[way] {
			t.Fatalf("P21.7: %+v", s)
		}
	}
}

// Just as much as is left ends it; one less does not.
func TestStepEnds(t *testing.T) {
	for n := 1; n <= 4; n++ {
		g := three(t, "KD1")
		is(t, "P21.5", g.Reindex("VP1"), api.OK)
		stepIs(t, g, n, n >= 3, api.OK)
		left := max(0, 3-n)
		if s := g.Stats(); s.Left != left || (s.Next != api.Spec{}) != (left > 0) {
			t.Errorf("P21.5: behind Step(%d): %+v", n, s)
		}
	}
}

// The old index stays, and what was left of the one that was dropped counts no longer.
func TestDrop(t *testing.T) {
	g := three(t, "KD1")
	is(t, "P21.5", g.Reindex("VP1"), api.OK)
	stepIs(t, g, 1, false, api.OK)
	putIs(t, g, row(4, 1), 4, api.OK)
	is(t, "P21.5", g.Drop(), api.OK)
	statsAre(t, g, api.Stats{Rows: 4, Seq: 4, Safe: 4, Spec: ways()["KD1"]})
	queryIs(t, g, exact(1, 1), true, "KD1", hit(4, 0))
	is(t, "P21.5", g.Drop(), api.ErrEngineIdle)
	stepIs(t, g, 1, false, api.ErrEngineIdle)
	deleteIs(t, g, 2, 5, api.OK)
	is(t, "P21.5", g.Reindex("VP3"), api.OK)
	statsAre(t, g, api.Stats{Rows: 3, Seq: 5, Safe: 5, Spec: ways()["KD1"], Next: ways()["VP3"], Left: 3})
	stepIs(t, g, 3, true, api.OK)
	queryIs(t, g, exact(9, 1), true, "VP3", hit(4, 0), hit(1, 1), hit(3, 64))
	if rows := g.index.Rows(); !reflect.DeepEqual(rows, g.Rows()) {
		t.Errorf("T7: the index has %v", rows)
	}
}

// As many rows as may be are built in while some of them make room for others.
func TestMany(t *testing.T) {
	t.Parallel()
	for _, way := range []string{"HNSW1", "IVF4,Flat", "KD1", "VP3", "IVF3,PQ2x4", "Flat"} {
		d := newDisk(t, api.MaxRoom)
		g := opened(t, d, config(2, "Flat"))
		for i := range 512 {
			putIs(t, g, row(i+1, i, i*i), i+1, api.OK)
		}
		is(t, "P21.5", g.Reindex(way), api.OK)
		seq := 512
		for g.Stats().Left > 3 {
			id := seq % 512
			putIs(t, g, row(600, 1, 1), 0, api.ErrStoreMany)
			deleteIs(t, g, id+1, seq+1, api.OK)
			putIs(t, g, row(id+1, id, -id), seq+2, api.OK)
			stepIs(t, g, 7, g.Stats().Left <= 7, api.OK)
			seq += 2
		}
		for range 3 {
			g.Step(1)
		}
		if rows := g.index.Rows(); len(rows) != 512 || !reflect.DeepEqual(rows, g.Rows()) || g.Stats().Spec != ways()[way] {
			t.Errorf("T7: %s: the index has %d rows", way, len(rows))
		}
		queryIs(t, g, exact(2, 500, 500*500), true, way, hit(501, 0), hit(500, 1+999*999))
		is(t, "P21.6", g.Snapshot(), api.OK)
		x := d.Clone()
		x.Crash()
		rowsAre(t, opened(t, x, config(2, way)), g.Rows()...)
	}
}

// A new index is not what a few first rows make of it, in whatever steps it is built: of rows on a line that stand in many lists, few have to be looked at.
func TestFit(t *testing.T) {
	for _, n := range []int{1, 3, 1000} {
		g := fresh(t, 1, "Flat")
		for i := range 200 {
			putIs(t, g, row(i+1, 1000*i), i+1, api.OK)
		}
		is(t, "P21.5", g.Reindex("IVF64,Flat"), api.OK)
		for g.Stats().Left > 0 {
			if _, e := g.Step(n); e != api.OK {
				t.Fatalf("P21.5: Step(%d): %d", n, e)
			}
		}
		for i, budget := range map[int]int{0: 20, 30: 20, 199: 100} {
			queryIs(t, g, fast(1, budget, 1000*i), true, "IVF64,Flat", hit(i+1, 0))
		}
	}
}

// The seed changes no answer that is certain, however the engine came to its rows.
func TestSeeds(t *testing.T) {
	draw := drawn(5)
	var rows []api.Row
	for i := range 60 {
		rows = append(rows, row(i+1, draw(50), draw(50)))
	}
	for way := range ways() {
		for _, seed := range []uint64{0, 1, math.MaxUint64} {
			d := newDisk(t, api.MaxRoom)
			c := api.Config{Dim: 2, Spec: ways()[way], Seed: seed}
			g := opened(t, d, c)
			for i, r := range rows {
				putIs(t, g, r, i+1, api.OK)
			}
			queryIs(t, g, exact(9, 20, 20), true, way, firstOf(rows, []int{20, 20}, 9)...)
			g = opened(t, d, c)
			queryIs(t, g, exact(9, 20, 20), true, way, firstOf(rows, []int{20, 20}, 9)...)
			queryIs(t, g, fast(9, 60, 20, 20), true, way, firstOf(rows, []int{20, 20}, 9)...)
		}
	}
}

// Snapshots let an engine live on a disk that has no room for all its changes.
func TestSnapshot(t *testing.T) {
	d := newDisk(t, 3000)
	g := opened(t, d, config(1, "KD1"))
	for i := range 900 {
		if _, e := g.Put(row(i%5+1, i)); e == api.ErrDiskFull {
			t.Fatalf("P21.6: full behind %d changes", i)
		}
		if i%20 == 0 {
			is(t, "P21.6", g.Snapshot(), api.OK)
		}
	}
	x := d.Clone()
	x.Crash()
	rowsAre(t, opened(t, x, config(1, "KD1")), row(1, 895), row(2, 896), row(3, 897), row(4, 898), row(5, 899))
}

// Lists that are handed in are neither kept nor written into, nor their spare room; lists that come out are nobody else's.
func TestMemory(t *testing.T) {
	for _, way := range texts() {
		g := fresh(t, 2, "KD1")
		spare := []int{3, 4, 99, 99}
		putIs(t, g, row(1, spare[:2]...), 1, api.OK)
		is(t, "P21.5", g.Reindex(way), api.OK)
		putIs(t, g, api.Row{Id: 2, V: spare[:2]}, 2, api.OK)
		q := api.Query{V: spare[:2], K: 2, Mode: api.ModeExact}
		queryIs(t, g, q, true, "KD1", hit(1, 0), hit(2, 0))
		if !slices.Equal(spare, []int{3, 4, 99, 99}) {
			t.Errorf("R2: %v", spare)
		}
		spare[0], spare[1] = 77, 77
		stepIs(t, g, 9, true, api.OK)
		r, _ := g.Query(exact(2, 3, 4))
		r.Hits[0] = api.Hit{}
		v, _ := g.Get(1)
		v[0] = 55
		rows := g.Rows()
		rows[1].V[0] = 55
		rows[0] = api.Row{}
		queryIs(t, g, exact(2, 3, 4), true, way, hit(1, 0), hit(2, 0))
		rowsAre(t, g, row(1, 3, 4), row(2, 3, 4))
	}
}

// Engines on two disks know nothing of one another.
func TestTwo(t *testing.T) {
	a, b := three(t, "KD1"), three(t, "VP1")
	is(t, "P21.5", a.Reindex("Flat"), api.OK)
	deleteIs(t, b, 1, 4, api.OK)
	stepIs(t, b, 1, false, api.ErrEngineIdle)
	stepIs(t, a, 3, true, api.OK)
	queryIs(t, a, exact(1, 0), true, "Flat", hit(1, 0))
	queryIs(t, b, exact(1, 0), true, "VP1", hit(2, 25))
}

// An engine whose disk has crashed, or has another engine, still ends its calls.
func TestStale(t *testing.T) {
	for crash := range 2 {
		d := newDisk(t, api.MaxRoom)
		g := opened(t, d, config(1, "KD1"))
		putIs(t, g, row(1, 5), 1, api.OK)
		is(t, "P21.5", g.Reindex("Flat"), api.OK)
		if crash == 1 {
			d.Crash()
		}
		other := opened(t, d, config(1, "KD1"))
		putIs(t, other, row(2, 6), 2, api.OK)
		is(t, "P21.6", other.Snapshot(), api.OK)
		g.Put(row(3, 7))
		g.Delete(1)
		g.Snapshot()
		g.Query(exact(1, 5))
		g.Step(5)
		g.Query(exact(1, 5))
		g.Stats()
	}
}
