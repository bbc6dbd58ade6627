package backend

import (
	"cmp"
	"maps"
	"math"
	"math/big"
	"reflect"
	"slices"
	"testing"

	"theodolite/api"
	"theodolite/cert"
	"theodolite/factory"
	"theodolite/flat"
	"theodolite/hnsw"
	"theodolite/ivf"
	"theodolite/kdtree"
	"theodolite/pq"
	"theodolite/vptree"
)

const top = api.MaxCoord

func lo(n uint64) api.Wide { return api.Wide{Lo: n} }

func nums(v ...int) []int { return v }

func row(id int, v ...int) api.Row { return api.Row{Id: id, V: v} }

func hit(id int, far uint64) api.Hit { return api.Hit{Id: id, Dist: lo(far)} }

// filled is a vector of n coordinates, all x.
func filled(n, x int) []int { return slices.Repeat(nums(x), n) }

// many is n rows of dimension dim, with the ids 1 to n, each with its own number as all coordinates.
func many(n, dim int) []api.Row {
	var rows []api.Row
	for i := range n {
		rows = append(rows, row(i+1, filled(dim, i)...))
	}
	return rows
}

// four are the rows of the chapter's table.
func four() []api.Row {
	return []api.Row{row(1, 0, 0), row(2, 3, 4), row(3, 0, 1), row(4, 30, 40)}
}

// seeds are some with which indexes are built that should answer alike.
func seeds() []uint64 { return []uint64{0, 7, math.MaxUint64} }

func spec(t *testing.T, text string) api.Spec {
	t.Helper()
	s, e := factory.Parse(text)
	if e != api.OK {
		t.Fatalf("%s is no spec: %d", text, e)
	}
	return s
}

func specs(t *testing.T, texts ...string) []api.Spec {
	t.Helper()
	var l []api.Spec
	for _, text := range texts {
		l = append(l, spec(t, text))
	}
	return l
}

// six is one spec of each kind: those of the chapter's table, for an even dimension.
func six(t *testing.T) []api.Spec {
	t.Helper()
	return specs(t, "Flat", "KD1", "VP2", "IVF2,Flat", "IVF2,PQ2x2", "HNSW2")
}

// ends is specs of all kinds at the ends of what their numbers may be, for the dimension.
func ends(t *testing.T, dim int) []api.Spec {
	t.Helper()
	l := specs(t, "Flat", "KD1", "KD64", "VP1", "VP64", "IVF1,Flat", "IVF64,Flat", "HNSW1", "HNSW16")
	for parts := 1; parts <= 8; parts++ {
		if dim%parts == 0 {
			l = append(l,
				api.Spec{Kind: api.KindPq, Size: 1, Parts: parts, Codes: 16},
				api.Spec{Kind: api.KindPq, Size: 64, Parts: parts, Codes: 1},
				api.Spec{Kind: api.KindPq, Size: 5, Parts: parts, Codes: 4})
		}
	}
	return l
}

func built(t *testing.T, s api.Spec, dim int, rows []api.Row, seed uint64) *Backend {
	t.Helper()
	b, e := Build(s, dim, rows, seed)
	if b == nil || e != api.OK {
		t.Fatalf("P14.1: Build(%v, %d, %d rows, %d): %v, %d", s, dim, len(rows), seed, b, e)
	}
	if got := b.Spec(); got != s {
		t.Fatalf("P14.2: %v: want %v", got, s)
	}
	return b
}

func buildFails(t *testing.T, s api.Spec, dim int, rows []api.Row, e api.Errno) {
	t.Helper()
	for _, seed := range seeds() {
		if b, got := Build(s, dim, rows, seed); b != nil || got != e {
			t.Errorf("P14.1: Build(%v, %d, %d rows, %d): %v, %d: want %d", s, dim, len(rows), seed, b, got, e)
		}
	}
}

func putIs(t *testing.T, b *Backend, r api.Row, fresh bool, e api.Errno) {
	t.Helper()
	if got, err := b.Put(r); got != fresh || err != e {
		t.Fatalf("P14.3: %v: Put(%v): %v, %d: want %v, %d", b.Spec(), r, got, err, fresh, e)
	}
}

func deleteIs(t *testing.T, b *Backend, id int, was bool) {
	t.Helper()
	if got, e := b.Delete(id); got != was || e != api.OK {
		t.Fatalf("P14.3: %v: Delete(%d): %v, %d: want %v", b.Spec(), id, got, e, was)
	}
}

func rising(rows []api.Row) []api.Row {
	return slices.SortedFunc(slices.Values(rows), func(a, b api.Row) int { return cmp.Compare(a.Id, b.Id) })
}

func sameRow(a, b api.Row) bool { return a.Id == b.Id && slices.Equal(a.V, b.V) }

func hasRows(t *testing.T, b *Backend, rows []api.Row) {
	t.Helper()
	want := rising(rows)
	if got := b.Rows(); b.Len() != len(rows) || !slices.EqualFunc(got, want, sameRow) {
		t.Fatalf("P14.4: %v: %d rows, %v: want %d, %v", b.Spec(), b.Len(), got, len(want), want)
	}
	// No answer would tell that those that are gone were remembered.
	if c, ok := b.index.(*coded); ok && len(c.known) != len(want) {
		t.Fatalf("%v: %d codes are kept of %d rows", b.Spec(), len(c.known), len(want))
	}
}

func searchFails(t *testing.T, b *Backend, q []int, k, budget int, e api.Errno) {
	t.Helper()
	if a, got := b.Search(q, k, budget); !reflect.DeepEqual(a, api.Answer{}) || got != e {
		t.Errorf("P14.5: %v: Search(%v, %d, %d): %+v, %d: want %d", b.Spec(), q, k, budget, a, got, e)
	}
}

// plainDist says the distance anew, by numbers that have no end.
func plainDist(a, b []int) *big.Int {
	sum := new(big.Int)
	for i := range a {
		d := big.NewInt(int64(a[i]) - int64(b[i]))
		sum.Add(sum, d.Mul(d, d))
	}
	return sum
}

// plainHits says the hits of rows for q anew, in order.
func plainHits(rows []api.Row, q []int) []api.Hit {
	type far struct {
		id   int
		dist *big.Int
	}
	var all []far
	for _, r := range rows {
		all = append(all, far{r.Id, plainDist(r.V, q)})
	}
	slices.SortFunc(all, func(a, b far) int { return cmp.Or(a.dist.Cmp(b.dist), a.id-b.id) })
	var hits []api.Hit
	for _, x := range all {
		low := new(big.Int).And(x.dist, new(big.Int).SetUint64(math.MaxUint64))
		hits = append(hits, api.Hit{Id: x.id, Dist: api.Wide{Hi: new(big.Int).Rsh(x.dist, 64).Uint64(), Lo: low.Uint64()}})
	}
	return hits
}

// first is the beginning of a list: k of it, or all.
func first[T any](k int, l []T) []T { return l[:min(k, len(l))] }

// searchIs asks whether a search of an index that should have these rows answers as DOC.md says. It tells the answer, and whether it is certain.
func searchIs(t *testing.T, b *Backend, rows []api.Row, q []int, k, budget int) (api.Answer, bool) {
	t.Helper()
	a, e := b.Search(q, k, budget)
	if e != api.OK {
		t.Fatalf("P14.5: %v: Search(%v, %d, %d): %d", b.Spec(), q, k, budget, e)
	}
	if sound, e := cert.Sound(rows, q, k, a); !sound || e != api.OK {
		t.Fatalf("T2: %v: Search(%v, %d, %d) of %v is not sound: %+v, %d", b.Spec(), q, k, budget, rows, a, e)
	}
	certain, _ := cert.Certain(rows, q, k, a)
	if len(a.Seen) > budget {
		t.Fatalf("T4: %v: %d are seen of %d that may be", b.Spec(), len(a.Seen), budget)
	}
	if !certain && len(a.Seen) != budget {
		t.Fatalf("T4: %v: %d are seen of %d that may be, and it is not certain: %+v", b.Spec(), len(a.Seen), budget, a)
	}
	if budget >= len(rows) && !certain {
		t.Fatalf("T4: %v: all %d might be seen, and it is not certain: %+v", b.Spec(), len(rows), a)
	}
	if want := first(k, plainHits(rows, q)); certain && !slices.Equal(a.Hits, want) {
		t.Fatalf("T2: %v: certain of %v: want %v", b.Spec(), a.Hits, want)
	}
	if again, _ := b.Search(q, k, budget); !reflect.DeepEqual(again, a) {
		t.Fatalf("P14.5: %v: asked again: %+v, then %+v", b.Spec(), a, again)
	}
	return a, certain
}

// source gives the same numbers in every run.
type source uint64

func (s *source) below(n int) int {
	*s ^= *s << 13
	*s ^= *s >> 7
	*s ^= *s << 17
	return int(uint64(*s) % uint64(n))
}

// vector is one of dimension dim: its coordinates are so near to nought that many rows are the same, or anywhere, or at the ends, or round one of few places.
func (s *source) vector(dim int) []int {
	v := make([]int, dim)
	how, place := s.below(6), s.below(5)*1000
	for i := range v {
		switch how {
		case 0:
			v[i] = s.below(2*top+1) - top
		case 1:
			v[i] = nums(-top, top)[s.below(2)]
		case 2:
			v[i] = s.below(5) - 2
		default:
			v[i] = place + s.below(50)
		}
	}
	return v
}

// rows are n of dimension dim, whose ids neither rise nor fall: 5021 is a prime, so that none stands twice.
func (s *source) rows(n, dim int) []api.Row {
	var rows []api.Row
	step := 1 + s.below(5020)
	for i := range n {
		rows = append(rows, row((i+1)*step%5021, s.vector(dim)...))
	}
	return rows
}

func TestExamples(t *testing.T) {
	for _, s := range six(t) {
		for _, seed := range seeds() {
			b := built(t, s, 2, four(), seed)
			hasRows(t, b, four())
			a, certain := searchIs(t, b, four(), nums(0, 0), 2, 4)
			if !certain || !slices.Equal(a.Hits, []api.Hit{hit(1, 0), hit(3, 1)}) {
				t.Errorf("P14.5: %v: %+v, %v", s, a, certain)
			}
			a, _ = searchIs(t, b, four(), nums(0, 0), 2, 1)
			others := 0
			for _, r := range a.Rest {
				others += len(r.Ids)
			}
			if len(a.Seen) != 1 || len(a.Hits) != 1 || others != 3 {
				t.Errorf("P14.5: %v: %+v", s, a)
			}
		}
	}
	buildFails(t, spec(t, "IVF2,PQ3x2"), 2, four(), api.ErrPqParts)
	buildFails(t, api.Spec{Kind: 9}, 2, four(), api.ErrSpecForm)
	buildFails(t, spec(t, "KD1"), 3, four(), api.ErrVecDim)
}

func TestBuildOfWrongSpecs(t *testing.T) {
	for _, kind := range []api.Kind{math.MinInt, -1, 0, 7, 9, math.MaxInt} {
		buildFails(t, api.Spec{Kind: kind}, 2, four(), api.ErrSpecForm)
		buildFails(t, api.Spec{Kind: kind, Size: 2, Parts: 2, Codes: 2}, 2, nil, api.ErrSpecForm)
	}
	most := map[api.Kind]int{api.KindFlat: 0, api.KindKd: 64, api.KindVp: 64, api.KindIvf: 64, api.KindPq: 64, api.KindHnsw: 16}
	for _, s := range six(t) {
		for _, size := range nums(math.MinInt, -1, most[s.Kind]+1, math.MaxInt) {
			wrong := s
			wrong.Size = size
			buildFails(t, wrong, 2, four(), api.ErrSpecNum)
		}
		if s.Kind != api.KindFlat {
			buildFails(t, api.Spec{Kind: s.Kind, Parts: s.Parts, Codes: s.Codes}, 2, four(), api.ErrSpecNum)
		}
		for _, n := range nums(math.MinInt, -1, 17, math.MaxInt) {
			buildFails(t, api.Spec{Kind: s.Kind, Size: s.Size, Parts: n, Codes: s.Codes}, 2, four(), api.ErrSpecNum)
			buildFails(t, api.Spec{Kind: s.Kind, Size: s.Size, Parts: s.Parts, Codes: n}, 2, four(), api.ErrSpecNum)
		}
	}
	// No parts: nothing is divided by nought.
	buildFails(t, api.Spec{Kind: api.KindPq, Size: 2, Codes: 2}, 2, four(), api.ErrSpecNum)
	buildFails(t, api.Spec{Kind: api.KindPq, Size: 2, Parts: 9, Codes: 2}, 9, nil, api.ErrSpecNum)
	buildFails(t, api.Spec{Kind: api.KindPq, Size: 2, Parts: 2}, 2, four(), api.ErrSpecNum)
	buildFails(t, api.Spec{Kind: api.KindIvf, Size: 2, Parts: 2, Codes: 2}, 2, four(), api.ErrSpecNum)
}

func TestBuildAtTheEnds(t *testing.T) {
	for _, dim := range nums(1, 2, 6, 8, 63, 64) {
		for _, s := range ends(t, dim) {
			rows := many(9, dim)
			rows[4].V = filled(dim, top)
			rows[7].V = filled(dim, -top)
			rows[2].Id = api.MaxId
			b := built(t, s, dim, rows, 7)
			hasRows(t, b, rows)
			a, certain := searchIs(t, b, rows, filled(dim, 1), 3, 9)
			if want := []api.Hit{hit(2, 0), hit(1, uint64(dim)), hit(api.MaxId, uint64(dim))}; !certain || !slices.Equal(a.Hits, want) {
				t.Errorf("P14.5: %v: %+v: want %v", s, a, want)
			}
			hasRows(t, built(t, s, dim, nil, 7), nil)
		}
	}
}

func TestBuildOfWrongRows(t *testing.T) {
	for _, s := range six(t) {
		for _, dim := range nums(math.MinInt, -2, 0, 65, 66, math.MaxInt) {
			buildFails(t, s, dim, nil, api.ErrVecDim)
			buildFails(t, s, dim, four(), api.ErrVecDim)
		}
		for _, dim := range nums(1, 3, 4, 64) {
			buildFails(t, s, dim, four(), api.ErrVecDim)
		}
		buildFails(t, s, 2, many(513, 2), api.ErrLong)
		buildFails(t, s, 65, many(513, 2), api.ErrVecDim)
		for _, id := range nums(math.MinInt, -1, 0, api.MaxId+1, math.MaxInt, 1, 3) {
			buildFails(t, s, 2, append(four(), row(id, 5, 5)), api.ErrFlatId)
			buildFails(t, s, 2, append(four(), row(id, 5, top+1)), api.ErrFlatId)
		}
		for _, v := range [][]int{nil, nums(1), nums(1, 2, 3), nums(1, 2, top+1)} {
			buildFails(t, s, 2, append(four(), row(5, v...)), api.ErrVecDim)
		}
		for _, x := range nums(math.MinInt, -top-1, top+1, math.MaxInt) {
			buildFails(t, s, 2, append(four(), row(5, 1, x), row(5, 1)), api.ErrVecCoord)
			buildFails(t, s, 2, append(four(), row(5, x, 1)), api.ErrVecCoord)
		}
	}
}

func TestBuildOfParts(t *testing.T) {
	for parts := 1; parts <= 8; parts++ {
		s := api.Spec{Kind: api.KindPq, Size: 3, Parts: parts, Codes: 3}
		for dim := 1; dim <= 64; dim++ {
			if dim%parts != 0 {
				buildFails(t, s, dim, nil, api.ErrPqParts)
				buildFails(t, s, dim, many(3, dim), api.ErrPqParts)
				continue
			}
			rows := many(5, dim)
			searchIs(t, built(t, s, dim, rows, 7), rows, filled(dim, 2), 2, 5)
		}
	}
}

// P14.1 names the spec's errors first, then the rows', then that of the parts.
func TestBuildErrorsInOrder(t *testing.T) {
	odd := spec(t, "IVF2,PQ3x2")
	buildFails(t, api.Spec{Kind: 9}, 0, four(), api.ErrSpecForm)
	buildFails(t, api.Spec{Kind: api.KindKd, Size: 65}, 0, four(), api.ErrSpecNum)
	buildFails(t, api.Spec{Kind: api.KindPq, Size: 65, Parts: 3, Codes: 2}, 2, four(), api.ErrSpecNum)
	buildFails(t, odd, 0, nil, api.ErrVecDim)
	buildFails(t, odd, 65, nil, api.ErrVecDim)
	buildFails(t, odd, 4, four(), api.ErrVecDim)
	buildFails(t, odd, 2, many(513, 2), api.ErrLong)
	buildFails(t, odd, 2, append(four(), row(0, 1, 1)), api.ErrFlatId)
	buildFails(t, odd, 2, append(four(), row(5, 1, top+1)), api.ErrVecCoord)
	buildFails(t, odd, 2, four(), api.ErrPqParts)
}

// What is asked of an index of a kind is answered by the layer that this kind is.
func TestKinds(t *testing.T) {
	s := source(11)
	rows := s.rows(120, 2)
	type layer interface {
		Put(row api.Row) (bool, api.Errno)
		Delete(id int) (bool, api.Errno)
		Search(q []int, k, budget int) (api.Answer, api.Errno)
	}
	for _, seed := range seeds() {
		kd, _ := kdtree.Build(rows, 2, 3)
		vp, _ := vptree.Build(rows, 2, 3, seed)
		lists, _ := ivf.Build(rows, 2, 7, rounds, seed)
		graph, _ := hnsw.Build(rows, 2, 3, seed)
		for text, l := range map[string]layer{"KD3": kd, "VP3": vp, "IVF7,Flat": lists, "HNSW3": graph} {
			b := built(t, spec(t, text), 2, rows, seed)
			for i := range 60 {
				q, k, budget := s.vector(2), 1+s.below(8), s.below(130)
				want, _ := l.Search(q, k, budget)
				if got, e := b.Search(q, k, budget); e != api.OK || !reflect.DeepEqual(got, want) {
					t.Fatalf("P14.1: %s: Search(%v, %d, %d): %+v, %d: want %+v", text, q, k, budget, got, e, want)
				}
				put := row(6000+s.below(20), s.vector(2)...)
				fresh, _ := l.Put(put)
				putIs(t, b, put, fresh, api.OK)
				was, _ := l.Delete(rows[i].Id)
				deleteIs(t, b, rows[i].Id, was)
			}
		}
	}
}

// A flat index looks at rows as flat does, of which it has those that were put, by rising ids.
func TestFlat(t *testing.T) {
	s := source(12)
	rows := s.rows(50, 3)
	b := built(t, spec(t, "Flat"), 3, rows, 1)
	for range 100 {
		q, k, budget := s.vector(3), 1+s.below(8), s.below(60)
		want, _ := flat.Search(rising(rows), q, k, budget)
		if got, e := b.Search(q, k, budget); e != api.OK || !reflect.DeepEqual(got, want) {
			t.Fatalf("P14.5: Search(%v, %d, %d): %+v, %d: want %+v", q, k, budget, got, e, want)
		}
	}
}

// The kinds that know where rows are do not look at all of them.
func TestFarRowsAreNotLookedAt(t *testing.T) {
	var rows []api.Row
	for i := range 40 {
		rows = append(rows, row(1+i, i%4, 0), row(101+i, 1000000+i, 1000000))
	}
	for _, s := range specs(t, "KD4", "VP4", "IVF8,Flat", "IVF8,PQ2x4", "IVF64,PQ1x16") {
		for _, seed := range seeds() {
			b := built(t, s, 2, rows, seed)
			for _, q := range [][]int{nums(1, 1), nums(1000000, 1000001)} {
				a, certain := searchIs(t, b, rows, q, 2, 80)
				if !certain || len(a.Seen) > 40 || len(a.Rest) == 0 {
					t.Errorf("T4: %v: %v: %d are seen, the Rest is %v", s, q, len(a.Seen), a.Rest)
				}
			}
		}
	}
}

func TestPutAndDelete(t *testing.T) {
	for _, s := range append(six(t), ends(t, 2)...) {
		for _, seed := range seeds() {
			b := built(t, s, 2, four(), seed)
			putIs(t, b, row(3, 9, 9), false, api.OK)
			putIs(t, b, row(5, 0, 0), true, api.OK)
			deleteIs(t, b, 1, true)
			deleteIs(t, b, 1, false)
			now := []api.Row{row(2, 3, 4), row(3, 9, 9), row(4, 30, 40), row(5, 0, 0)}
			hasRows(t, b, now)
			a, _ := searchIs(t, b, now, nums(0, 0), 1, 1000)
			if !slices.Equal(a.Hits, []api.Hit{hit(5, 0)}) {
				t.Errorf("P14.5: %v: %+v", s, a)
			}
			putIs(t, b, row(api.MaxId, top, -top), true, api.OK)
			putIs(t, b, row(api.MaxId, top, -top), false, api.OK)
			putIs(t, b, row(1, -top, top), true, api.OK)
			now = append(now, row(api.MaxId, top, -top), row(1, -top, top))
			hasRows(t, b, now)
			searchIs(t, b, now, nums(top, top), 3, 6)
			for _, id := range nums(math.MinInt, -1, 0, 6, api.MaxId-1, api.MaxId+1, math.MaxInt) {
				deleteIs(t, b, id, false)
			}
			for _, r := range now {
				deleteIs(t, b, r.Id, true)
			}
			hasRows(t, b, nil)
			a, certain := searchIs(t, b, nil, nums(1, 1), 3, 5)
			if !certain || len(a.Hits)+len(a.Seen)+len(a.Rest) != 0 {
				t.Errorf("P14.5: %v: without rows: %+v", s, a)
			}
			putIs(t, b, row(7, 1, 2), true, api.OK)
			hasRows(t, b, []api.Row{row(7, 1, 2)})
		}
	}
}

func putFails(t *testing.T, b *Backend, rows []api.Row) {
	t.Helper()
	for _, id := range nums(math.MinInt, -1, 0, api.MaxId+1, math.MaxInt) {
		putIs(t, b, row(id, 1, 1), false, api.ErrFlatId)
		putIs(t, b, row(id, 1), false, api.ErrFlatId)
		putIs(t, b, row(id, 1, top+1), false, api.ErrFlatId)
	}
	for _, id := range nums(1, 2, 9000, api.MaxId) {
		for _, v := range [][]int{nil, nums(1), nums(1, 2, 3), nums(top+1, 2, 3), filled(65, 1)} {
			putIs(t, b, row(id, v...), false, api.ErrVecDim)
		}
		for _, x := range nums(math.MinInt, -top-1, top+1, math.MaxInt) {
			putIs(t, b, row(id, x, 1), false, api.ErrVecCoord)
			putIs(t, b, row(id, 1, x), false, api.ErrVecCoord)
		}
	}
	hasRows(t, b, rows)
	searchIs(t, b, rows, nums(1, 1), 2, len(rows))
}

func TestPutOfWrongRows(t *testing.T) {
	for _, s := range six(t) {
		putFails(t, built(t, s, 2, nil, 7), nil)
		putFails(t, built(t, s, 2, four(), 7), four())
	}
}

func TestPutOfTooMany(t *testing.T) {
	rows := many(512, 2)
	for _, s := range six(t) {
		for _, start := range nums(0, 511, 512) {
			b := built(t, s, 2, rows[:start], 7)
			for _, r := range rows[start:] {
				putIs(t, b, r, true, api.OK)
			}
			putIs(t, b, row(513, 1, 1), false, api.ErrLong)
			putIs(t, b, row(api.MaxId, 1, 1), false, api.ErrLong)
			putFails(t, b, rows)
			putIs(t, b, row(512, -5, -5), false, api.OK)
			now := append(slices.Clone(rows[:511]), row(512, -5, -5))
			hasRows(t, b, now)
			searchIs(t, b, now, nums(-5, -5), 1, 512)
			deleteIs(t, b, 1, true)
			putIs(t, b, row(513, 7, 7), true, api.OK)
			putIs(t, b, row(1, 7, 7), false, api.ErrLong)
			hasRows(t, b, append(now[1:], row(513, 7, 7)))
		}
	}
}

func TestSearchOfWrongQuestions(t *testing.T) {
	for _, s := range six(t) {
		for _, rows := range [][]api.Row{nil, four()} {
			b := built(t, s, 2, rows, 7)
			for _, q := range [][]int{nil, nums(1), nums(1, 2, 3), nums(top+1, 2, 3), filled(64, 1), filled(65, 1)} {
				searchFails(t, b, q, 1, 1, api.ErrVecDim)
				searchFails(t, b, q, 0, -1, api.ErrVecDim)
			}
			for _, x := range nums(math.MinInt, -top-1, top+1, math.MaxInt) {
				searchFails(t, b, nums(1, x), 1, 1, api.ErrVecCoord)
				searchFails(t, b, nums(x, 1), 65, 1000001, api.ErrVecCoord)
			}
			for _, k := range nums(math.MinInt, -1, 0, 65, math.MaxInt) {
				searchFails(t, b, nums(1, 1), k, 1, api.ErrArg)
				searchFails(t, b, nums(1, 1), k, 0, api.ErrArg)
			}
			for _, budget := range nums(math.MinInt, -1, 1000001, math.MaxInt) {
				searchFails(t, b, nums(1, 1), 1, budget, api.ErrArg)
				searchFails(t, b, nums(1, 1), 64, budget, api.ErrArg)
			}
			for _, k := range nums(1, 64) {
				searchIs(t, b, rows, nums(-top, top), k, 0)
				searchIs(t, b, rows, nums(-top, top), k, 1000000)
			}
		}
	}
}

func TestSearchByBudgets(t *testing.T) {
	s := source(21)
	for _, dim := range nums(1, 2, 4) {
		rows := s.rows(60, dim)
		for _, x := range ends(t, dim) {
			b := built(t, x, dim, rows, 7)
			for budget := range 62 {
				q := s.vector(dim)
				if budget%2 == 0 {
					q = slices.Clone(rows[s.below(60)].V)
				}
				for _, k := range nums(1, 3, 64) {
					searchIs(t, b, rows, q, k, budget)
				}
			}
			for _, k := range nums(59, 60, 61, 64) {
				searchIs(t, b, rows, filled(dim, 1), k, 59)
				searchIs(t, b, rows, filled(dim, 1), k, 60)
				searchIs(t, b, rows, filled(dim, 1), k, 1000000)
			}
		}
	}
}

// Rows that are all the same, or lie on one line, are told apart by their ids alone.
func TestRowsThatAreTheSame(t *testing.T) {
	for _, x := range ends(t, 2) {
		var rows []api.Row
		for i := range 30 {
			rows = append(rows, row(100-i, 5, 5))
		}
		b := built(t, x, 2, rows, 7)
		for budget := range 32 {
			searchIs(t, b, rows, nums(5, 5), 3, budget)
			searchIs(t, b, rows, nums(6, 4), 3, budget)
		}
		a, _ := searchIs(t, b, rows, nums(5, 6), 2, 30)
		if !slices.Equal(a.Hits, []api.Hit{hit(71, 1), hit(72, 1)}) {
			t.Errorf("P14.5: %v: %v", x, a.Hits)
		}
	}
}

// T1: the greatest distances are told whole.
func TestGreatestNumbers(t *testing.T) {
	for _, x := range ends(t, 64) {
		rows := []api.Row{row(1, filled(64, top)...), row(2, filled(64, -top)...), row(3, filled(64, 0)...)}
		b := built(t, x, 64, rows, 7)
		// 64 times the square of 4294967294 is 2 to the power of 70, less 64 times 17179869180.
		far := api.Wide{Hi: 63, Lo: math.MaxUint64 - 64*17179869180 + 1}
		for range 2 {
			a, certain := searchIs(t, b, rows, filled(64, -top), 3, 3)
			if !certain || len(a.Hits) != 3 || a.Hits[0] != hit(2, 0) || a.Hits[2] != (api.Hit{Id: 1, Dist: far}) {
				t.Errorf("T1: %v: %+v: want 1 at %v", x, a, far)
			}
			searchIs(t, b, rows, filled(64, top), 1, 1)
			deleteIs(t, b, 1, true)
			putIs(t, b, rows[0], true, api.OK)
		}
	}
}

// change puts or deletes at random, in all of the indexes and in a plain list of rows, which it gives.
func (s *source) change(t *testing.T, all []*Backend, now map[int][]int, dim int) {
	t.Helper()
	id := 1 + s.below(90)
	_, had := now[id]
	if s.below(3) == 0 {
		for _, b := range all {
			deleteIs(t, b, id, had)
		}
		delete(now, id)
		return
	}
	v := s.vector(dim)
	for _, b := range all {
		putIs(t, b, row(id, v...), !had, api.OK)
	}
	now[id] = v
}

func rowsOf(now map[int][]int) []api.Row {
	var rows []api.Row
	for _, id := range slices.Sorted(maps.Keys(now)) {
		rows = append(rows, row(id, now[id]...))
	}
	return rows
}

// P14.6: whatever was put and deleted, all kinds have the same rows, tell the same hits, and are sound.
func TestAllKindsAgree(t *testing.T) {
	s := source(31)
	for _, dim := range nums(1, 2, 8) {
		for _, size := range nums(0, 3, 70) {
			start := many(size, dim)
			now := map[int][]int{}
			for i := range start {
				start[i].V = s.vector(dim)
				now[start[i].Id] = start[i].V
			}
			var all []*Backend
			for i, x := range ends(t, dim) {
				all = append(all, built(t, x, dim, start, uint64(i)))
			}
			for range 60 {
				s.change(t, all, now, dim)
				rows, q, k := rowsOf(now), s.vector(dim), 1+s.below(12)
				want := first(k, plainHits(rows, q))
				budget := s.below(len(rows) + 1)
				for _, b := range all {
					hasRows(t, b, rows)
					a, _ := searchIs(t, b, rows, q, k, len(rows))
					if !slices.Equal(a.Hits, want) {
						t.Fatalf("P14.6: %v: %v: want %v", b.Spec(), a.Hits, want)
					}
					searchIs(t, b, rows, q, k, budget)
				}
			}
		}
	}
}

// T5: an index that has come to its rows on another way has the same ones.
func TestWaysToTheSameRows(t *testing.T) {
	s := source(41)
	rows := s.rows(80, 2)
	for _, x := range append(six(t), ends(t, 2)...) {
		whole := built(t, x, 2, rows, 1)
		backwards := slices.Clone(rows)
		slices.Reverse(backwards)
		turned := built(t, x, 2, backwards, 2)
		grown := built(t, x, 2, nil, 3)
		for _, r := range rows {
			putIs(t, grown, r, true, api.OK)
		}
		moved := built(t, x, 2, many(100, 2), 4)
		for _, r := range many(100, 2) {
			deleteIs(t, moved, r.Id, true)
		}
		for _, r := range rows {
			putIs(t, moved, row(r.Id, s.vector(2)...), true, api.OK)
			putIs(t, moved, r, false, api.OK)
		}
		for range 10 {
			q, k := s.vector(2), 1+s.below(9)
			for _, b := range []*Backend{whole, turned, grown, moved} {
				hasRows(t, b, rows)
				searchIs(t, b, rows, q, k, 80)
				searchIs(t, b, rows, q, k, 20)
			}
		}
	}
}

// A KindPq looks first at those that are near by their codes.
func TestCodesTellWhoIsFirst(t *testing.T) {
	var rows []api.Row
	for i := range 4 {
		rows = append(rows, row(10+i, 100*i, 0), row(20+i, 100*i, 900))
	}
	for _, seed := range seeds() {
		b := built(t, spec(t, "IVF1,PQ2x16"), 2, rows, seed)
		// There are no more codes than rows. What they stand for is asked of a coder that is trained alike.
		coder, _ := pq.Train(vectors(rising(rows)), 2, 2, 8, rounds, seed)
		for _, q := range [][]int{nums(0, 0), nums(301, 899), nums(190, 10), nums(-5, 1000)} {
			want := plainHits(decoded(t, coder, rows), q)
			for budget := range 9 {
				a, _ := searchIs(t, b, rows, q, 1, budget)
				var ids []int
				for _, h := range first(budget, want) {
					ids = append(ids, h.Id)
				}
				slices.Sort(ids)
				if !slices.Equal(a.Seen, ids) {
					t.Errorf("P14.1: %v, %d: seen are %v: want %v", q, budget, a.Seen, ids)
				}
			}
		}
	}
}

func vectors(rows []api.Row) [][]int {
	var l [][]int
	for _, r := range rows {
		l = append(l, r.V)
	}
	return l
}

// decoded is the rows as their codes say them.
func decoded(t *testing.T, coder *pq.Coder, rows []api.Row) []api.Row {
	t.Helper()
	var said []api.Row
	for _, r := range rows {
		code, _ := coder.Encode(r.V)
		v, e := coder.Decode(code)
		if e != api.OK {
			t.Fatalf("no code of %v: %d", r, e)
		}
		said = append(said, row(r.Id, v...))
	}
	return said
}

// A KindPq can be built of fewer rows than it has lists and codes; its answers are exact, though its codes are not.
func TestCodesOfFewRows(t *testing.T) {
	s := source(51)
	for size := range 18 {
		rows := s.rows(size, 4)
		for _, x := range specs(t, "IVF64,PQ4x16", "IVF1,PQ1x1", "IVF3,PQ2x16", "IVF16,PQ4x5") {
			for _, seed := range seeds() {
				b := built(t, x, 4, rows, seed)
				hasRows(t, b, rows)
				now := slices.Clone(rows)
				for i := range 20 {
					put := row(7000+i, s.vector(4)...)
					putIs(t, b, put, true, api.OK)
					now = append(now, put)
				}
				for budget := 0; budget <= len(now); budget += 3 {
					searchIs(t, b, now, s.vector(4), 2, budget)
				}
				searchIs(t, b, now, s.vector(4), 5, len(now))
			}
		}
	}
}

// R1: calls that fail, and those that only ask, change nothing.
func TestNothingIsChanged(t *testing.T) {
	s := source(61)
	rows := s.rows(100, 2)
	for _, x := range append(six(t), ends(t, 2)...) {
		changed := func(between func(b *Backend)) []api.Answer {
			b := built(t, x, 2, rows, 5)
			var told []api.Answer
			for i := range 30 {
				putIs(t, b, row(6000+i, i, -i), true, api.OK)
				putIs(t, b, row(rows[i].Id, i, i), false, api.OK)
				between(b)
				deleteIs(t, b, rows[50+i].Id, true)
				a, _ := b.Search(nums(1, i), 5, 3*i)
				told = append(told, a)
			}
			return told
		}
		one := changed(func(b *Backend) {})
		again := changed(func(b *Backend) {
			putIs(t, b, row(0, 1, 1), false, api.ErrFlatId)
			putIs(t, b, row(rows[1].Id, 1), false, api.ErrVecDim)
			putIs(t, b, row(rows[2].Id, 1, top+1), false, api.ErrVecCoord)
			deleteIs(t, b, 7000, false)
			searchFails(t, b, nums(1), 1, 1, api.ErrVecDim)
			searchFails(t, b, nums(1, 1), 0, 1, api.ErrArg)
			hasRows(t, b, b.Rows())
			b.Search(nums(5, 5), 3, 15)
		})
		if !reflect.DeepEqual(again, one) {
			t.Errorf("R1: %v: %+v, then %+v", x, one, again)
		}
	}
}

// R2: what is handed in is not written into, nor its spare room, and is not kept.
func TestNothingIsWrittenOrKept(t *testing.T) {
	room := func() []api.Row { return append(four(), row(99, 8, 8), row(98, 9, 9)) }
	for _, x := range append(six(t), ends(t, 2)...) {
		rows, q, v, w := room(), nums(3, 4, 77), nums(1, 1, 55), nums(2, 1, 55)
		slices.Reverse(rows[:4])
		b := built(t, x, 2, rows[:4], 7)
		putIs(t, b, api.Row{Id: 6, V: v[:2]}, true, api.OK)
		putIs(t, b, api.Row{Id: 4, V: w[:2]}, false, api.OK)
		for budget := range 7 {
			b.Search(q[:2], 2, budget)
		}
		slices.Reverse(rows[:4])
		if !reflect.DeepEqual(rows, room()) || !slices.Equal(q, nums(3, 4, 77)) || !slices.Equal(v, nums(1, 1, 55)) || !slices.Equal(w, nums(2, 1, 55)) {
			t.Errorf("R2: %v: left behind: %v, %v, %v, %v", x, rows, q, v, w)
		}
		for i := range rows {
			rows[i].Id, rows[i].V[0] = 55, 1000
		}
		v[0], w[0] = 1000, 1000
		now := append(four()[:3], row(4, 2, 1), row(6, 1, 1))
		hasRows(t, b, now)
		for budget := range 6 {
			searchIs(t, b, now, nums(3, 4), 2, budget)
		}
	}
}

// spoil writes a number of its own into each list, and into its spare room, and tells whether all of them keep it.
func spoil(lists [][]int) bool {
	for i, l := range lists {
		for j := range l[:cap(l)] {
			l[:cap(l)][j] = -100 - i
		}
	}
	for i, l := range lists {
		for _, n := range l {
			if n != -100-i {
				return false
			}
		}
	}
	return true
}

// R2: what comes out is new memory, of which no two lists share any.
func TestAnswersAreNew(t *testing.T) {
	rows := append(four(), row(5, 1, 1), row(6, 2, 2), row(7, 40, 30))
	for _, x := range append(six(t), ends(t, 2)...) {
		b := built(t, x, 2, rows, 7)
		for budget := range 8 {
			was, _ := b.Search(nums(1, 0), 2, budget)
			a, _ := b.Search(nums(1, 0), 2, budget)
			lists := [][]int{a.Seen}
			for _, r := range a.Rest {
				lists = append(lists, r.Lo, r.Hi, r.Ids)
			}
			for i := range a.Hits {
				a.Hits[i] = hit(77, 77)
			}
			if !spoil(lists) {
				t.Fatalf("R2: %v: two lists of an answer share memory", x)
			}
			if again, _ := b.Search(nums(1, 0), 2, budget); !reflect.DeepEqual(again, was) {
				t.Fatalf("R2: %v: asked again: %+v: want %+v", x, again, was)
			}
		}
		told := b.Rows()
		if !spoil(vectors(told)) {
			t.Fatalf("R2: %v: two rows share memory", x)
		}
		for i := range told {
			told[i] = row(77)
		}
		hasRows(t, b, rows)
		searchIs(t, b, rows, nums(1, 0), 2, 7)
	}
}

// R2: indexes know nothing of one another, and an answer nothing of later calls.
func TestIndexesAreApart(t *testing.T) {
	for _, x := range append(six(t), ends(t, 2)...) {
		rows := four()
		b, c := built(t, x, 2, rows, 7), built(t, x, 2, rows, 7)
		was, _ := b.Search(nums(0, 0), 1, 1)
		kept, _ := b.Search(nums(0, 0), 1, 1)
		told := b.Rows()
		for _, r := range rows {
			putIs(t, b, row(r.Id, 500, 500), false, api.OK)
		}
		deleteIs(t, b, 4, true)
		hasRows(t, c, four())
		searchIs(t, c, four(), nums(0, 0), 1, 4)
		if !reflect.DeepEqual(kept, was) || !slices.EqualFunc(told, four(), sameRow) {
			t.Errorf("R2: %v: answers have changed: %+v, %v", x, kept, told)
		}
	}
}

// R3: a nil one answers ErrNil ahead of all other errors; so does a zero one, which no call gave.
func TestNil(t *testing.T) {
	for _, b := range []*Backend{nil, {}} {
		for _, r := range []api.Row{{}, row(1, 1), row(0, top+1)} {
			putIs(t, b, r, false, api.ErrNil)
		}
		for _, id := range nums(-1, 0, 1) {
			if was, e := b.Delete(id); was || e != api.ErrNil {
				t.Errorf("R3: Delete(%d): %v, %d", id, was, e)
			}
		}
		searchFails(t, b, nums(1), 1, 1, api.ErrNil)
		searchFails(t, b, nil, 0, -1, api.ErrNil)
		if s, n, rows := b.Spec(), b.Len(), b.Rows(); s != (api.Spec{}) || n != 0 || len(rows) != 0 {
			t.Errorf("R3: %v, %d, %v", s, n, rows)
		}
	}
}
