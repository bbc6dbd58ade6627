package ivf

import (
	"cmp"
	"maps"
	"math"
	"math/big"
	"reflect"
	"slices"
	"testing"

	"theodolite/api"
	"theodolite/kmeans"
	"theodolite/vec"
	"theodolite/wide"
)

const top = api.MaxCoord

func lo(n uint64) api.Wide { return api.Wide{Lo: n} }

func nums(v ...int) []int { return v }

func row(id int, v ...int) api.Row { return api.Row{Id: id, V: v} }

func hit(id int, far uint64) api.Hit { return api.Hit{Id: id, Dist: lo(far)} }

// filled is a vector of n coordinates, all x.
func filled(n, x int) []int { return slices.Repeat(nums(x), n) }

// many is n rows of one coordinate, with the ids 1 to n.
func many(n int) []api.Row {
	var rows []api.Row
	for i := range n {
		rows = append(rows, row(i+1, i))
	}
	return rows
}

// four are the rows of the chapter's table.
func four() []api.Row {
	return []api.Row{row(1, 0, 0), row(2, 3, 4), row(3, 0, 1), row(4, 30, 40)}
}

// seeds are some with which trees are built that should answer alike.
func seeds() []uint64 { return []uint64{0, 1, 7, 1 << 63, math.MaxUint64} }

func built(t *testing.T, rows []api.Row, dim, lists, rounds int, seed uint64) *Tree {
	t.Helper()
	x, e := Build(rows, dim, lists, rounds, seed)
	if x == nil || e != api.OK {
		t.Fatalf("P9.1: Build of %d rows, %d, %d, %d, %d: %v, %d", len(rows), dim, lists, rounds, seed, x, e)
	}
	return x
}

func buildFails(t *testing.T, rows []api.Row, dim, lists, rounds int, e api.Errno) {
	t.Helper()
	for _, seed := range seeds() {
		if x, got := Build(rows, dim, lists, rounds, seed); x != nil || got != e {
			t.Errorf("P9.1: Build of %d rows, %d, %d, %d, %d: %v, %d: want %d", len(rows), dim, lists, rounds, seed, x, got, e)
		}
	}
}

func putIs(t *testing.T, x *Tree, r api.Row, fresh bool, e api.Errno) {
	t.Helper()
	if got, err := x.Put(r); got != fresh || err != e {
		t.Errorf("P9.2: Put(%v): %v, %d: want %v, %d", r, got, err, fresh, e)
	}
}

func deleteIs(t *testing.T, x *Tree, id int, was bool) {
	t.Helper()
	if got, e := x.Delete(id); got != was || e != api.OK {
		t.Errorf("P9.2: Delete(%d): %v, %d: want %v", id, got, e, was)
	}
}

func rising(rows []api.Row) []api.Row {
	return slices.SortedFunc(slices.Values(rows), func(a, b api.Row) int { return cmp.Compare(a.Id, b.Id) })
}

// hasRows asks whether the tree has just these rows, each in the list of the centre that is nearest to it.
func hasRows(t *testing.T, x *Tree, rows []api.Row) {
	t.Helper()
	same := func(a, b api.Row) bool { return a.Id == b.Id && slices.Equal(a.V, b.V) }
	want := rising(rows)
	if got := x.Rows(); x.Len() != len(rows) || !slices.EqualFunc(got, want, same) {
		t.Fatalf("P9.3: %d rows, %v: want %d, %v", x.Len(), got, len(want), want)
	}
	centres := x.Centres()
	lists := make([][]int, len(centres))
	for _, r := range want {
		at := plainOrder(centres, r.V)[0]
		lists[at] = append(lists[at], r.Id)
	}
	for i, ids := range lists {
		listIs(t, x, i, ids, api.OK)
	}
}

func centresAre(t *testing.T, x *Tree, want [][]int) {
	t.Helper()
	if got := x.Centres(); !slices.EqualFunc(got, want, slices.Equal[[]int]) {
		t.Fatalf("P9.5: Centres: %v: want %v", got, want)
	}
}

func listIs(t *testing.T, x *Tree, i int, ids []int, e api.Errno) {
	t.Helper()
	if got, err := x.List(i); !slices.Equal(got, ids) || err != e {
		t.Fatalf("P9.5: List(%d): %v, %d: want %v, %d", i, got, err, ids, e)
	}
}

func nearestIs(t *testing.T, x *Tree, q []int, n int, places []int, e api.Errno) {
	t.Helper()
	if got, err := x.Nearest(q, n); !slices.Equal(got, places) || err != e {
		t.Fatalf("P9.6: Nearest(%v, %d): %v, %d: want %v, %d", q, n, got, err, places, e)
	}
}

func searchFails(t *testing.T, x *Tree, q []int, k, budget int, e api.Errno) {
	t.Helper()
	if a, got := x.Search(q, k, budget); !reflect.DeepEqual(a, api.Answer{}) || got != e {
		t.Errorf("P9.4: Search(%v, %d, %d): %+v, %d: want %d", q, k, budget, a, got, e)
	}
}

// plainDist says the distance anew, by numbers that have no end.
func plainDist(a, b []int) *big.Int {
	sum := new(big.Int)
	for i := range a {
		d := big.NewInt(int64(a[i]) - int64(b[i]))
		sum.Add(sum, d.Mul(d, d))
	}
	return sum
}

// plainOrder says the order of the centres' places anew, the nearest to v first.
func plainOrder(centres [][]int, v []int) []int {
	var places []int
	far := map[int]*big.Int{}
	for i, c := range centres {
		places, far[i] = append(places, i), plainDist(c, v)
	}
	slices.SortFunc(places, func(a, b int) int { return cmp.Or(far[a].Cmp(far[b]), a-b) })
	return places
}

// plainHits says the hits of rows for q anew, in order.
func plainHits(rows []api.Row, q []int) []api.Hit {
	type far struct {
		id   int
		dist *big.Int
	}
	var all []far
	for _, r := range rows {
		all = append(all, far{r.Id, plainDist(r.V, q)})
	}
	slices.SortFunc(all, func(a, b far) int { return cmp.Or(a.dist.Cmp(b.dist), a.id-b.id) })
	var hits []api.Hit
	for _, x := range all {
		low := new(big.Int).And(x.dist, new(big.Int).SetUint64(math.MaxUint64))
		hits = append(hits, api.Hit{Id: x.id, Dist: api.Wide{Hi: new(big.Int).Rsh(x.dist, 64).Uint64(), Lo: low.Uint64()}})
	}
	return hits
}

// first is the beginning of a list: k of it, or all.
func first[T any](k int, l []T) []T { return l[:min(k, len(l))] }

// soundIs asks whether an answer is sound, of these rows (DOC.md, Words).
func soundIs(t *testing.T, rows []api.Row, q []int, k int, a api.Answer) {
	t.Helper()
	vectors := map[int][]int{}
	for _, r := range rows {
		vectors[r.Id] = r.V
	}
	together := slices.Clone(a.Seen)
	for _, r := range a.Rest {
		if e := vec.CheckRegion(r, len(q)); e != api.OK || len(r.Ids) == 0 {
			t.Fatalf("T2: a region %+v: %d", r, e)
		}
		for _, id := range r.Ids {
			if in, e := vec.Inside(r, vectors[id]); !in || e != api.OK {
				t.Fatalf("T2: %d, %v is not in %+v", id, vectors[id], r)
			}
		}
		together = append(together, r.Ids...)
	}
	slices.Sort(together)
	if ids := slices.Sorted(maps.Keys(vectors)); !slices.Equal(together, ids) || !slices.IsSorted(a.Seen) {
		t.Fatalf("T2: Seen %v and Rest %v: want each of %v once, and rising", a.Seen, a.Rest, ids)
	}
	var seen []api.Row
	for _, id := range a.Seen {
		seen = append(seen, row(id, vectors[id]...))
	}
	if want := first(k, plainHits(seen, q)); !slices.Equal(a.Hits, want) {
		t.Fatalf("T2: the first %d for %v of %v: %v: want %v", k, q, a.Seen, a.Hits, want)
	}
}

// isCertain tells whether a sound answer is certain (DOC.md, Words).
func isCertain(t *testing.T, q []int, k int, a api.Answer) bool {
	t.Helper()
	if len(a.Rest) == 0 {
		return true
	}
	if len(a.Hits) != k {
		return false
	}
	for _, r := range a.Rest {
		bound, e := vec.Bound(r, q)
		if e != api.OK {
			t.Fatalf("T2: no bound of %+v: %d", r, e)
		}
		if wide.Cmp(bound, a.Hits[k-1].Dist) <= 0 {
			return false
		}
	}
	return true
}

// searchIs asks whether a search of a tree that should have these rows answers as DOC.md says. It tells the answer, and whether it is certain.
func searchIs(t *testing.T, x *Tree, rows []api.Row, q []int, k, budget int) (api.Answer, bool) {
	t.Helper()
	a, e := x.Search(q, k, budget)
	if e != api.OK {
		t.Fatalf("P9.4: Search(%v, %d, %d): %d", q, k, budget, e)
	}
	soundIs(t, rows, q, k, a)
	certain := isCertain(t, q, k, a)
	if len(a.Seen) > budget {
		t.Fatalf("T4: %d are seen of %d that may be", len(a.Seen), budget)
	}
	if !certain && len(a.Seen) != budget {
		t.Fatalf("T4: %d are seen of %d that may be, and it is not certain: %+v", len(a.Seen), budget, a)
	}
	if budget >= len(rows) && !certain {
		t.Fatalf("T4: all %d might be seen, and it is not certain: %+v", len(rows), a)
	}
	if want := first(k, plainHits(rows, q)); certain && !slices.Equal(a.Hits, want) {
		t.Fatalf("T2: certain of %v: want %v", a.Hits, want)
	}
	if again, _ := x.Search(q, k, budget); !reflect.DeepEqual(again, a) {
		t.Fatalf("P9.4: asked again: %+v, then %+v", a, again)
	}
	return a, certain
}

// source gives the same numbers in every run.
type source uint64

func (s *source) below(n int) int {
	*s ^= *s << 13
	*s ^= *s >> 7
	*s ^= *s << 17
	return int(uint64(*s) % uint64(n))
}

// vector is one of dimension dim: its coordinates are so near to nought that many rows are the same, or anywhere, or at the ends.
func (s *source) vector(dim int) []int {
	v := make([]int, dim)
	how := s.below(5)
	for i := range v {
		switch how {
		case 0:
			v[i] = s.below(2*top+1) - top
		case 1:
			v[i] = nums(-top, top)[s.below(2)]
		case 2:
			v[i] = s.below(200) - 100
		default:
			v[i] = s.below(5) - 2
		}
	}
	return v
}

// rows are n of dimension dim, whose ids neither rise nor fall: 5021 is a prime, so that none stands twice.
func (s *source) rows(n, dim int) []api.Row {
	var rows []api.Row
	step := 1 + s.below(5020)
	for i := range n {
		rows = append(rows, row((i+1)*step%5021, s.vector(dim)...))
	}
	return rows
}

// The chapter's table, line by line.
func TestExamples(t *testing.T) {
	for _, seed := range seeds() {
		x := built(t, four(), 2, 2, 20, seed)
		if x.Len() != 4 {
			t.Errorf("P9.3: %d rows", x.Len())
		}
		a, certain := searchIs(t, x, four(), nums(0, 0), 2, 4)
		if !certain || !slices.Equal(a.Hits, []api.Hit{hit(1, 0), hit(3, 1)}) {
			t.Errorf("P9.4: %+v", a)
		}
		a, certain = searchIs(t, x, four(), nums(0, 0), 2, 1)
		if certain || len(a.Seen) != 1 || len(a.Hits) != 1 {
			t.Errorf("P9.4: %+v", a)
		}
		putIs(t, x, row(3, 9, 9), false, api.OK)
		putIs(t, x, row(5, 0, 0), true, api.OK)
		deleteIs(t, x, 1, true)
		deleteIs(t, x, 1, false)
		a, _ = searchIs(t, x, []api.Row{row(2, 3, 4), row(3, 9, 9), row(4, 30, 40), row(5, 0, 0)}, nums(0, 0), 1, 1000)
		if !slices.Equal(a.Hits, []api.Hit{hit(5, 0)}) {
			t.Errorf("P9.4: %+v", a)
		}
		putIs(t, x, row(0, 1, 1), false, api.ErrFlatId)
		searchFails(t, x, nums(0, 0), 0, 1, api.ErrArg)
	}
	x := built(t, nil, 2, 9, 3, 7)
	centresAre(t, x, [][]int{{0, 0}})
	listIs(t, x, 0, nil, api.OK)
	listIs(t, x, 1, nil, api.ErrArg)
	nearestIs(t, x, nums(5, 5), 3, nums(0), api.OK)
	buildFails(t, four(), 3, 2, 1, api.ErrVecDim)
	buildFails(t, four(), 2, 0, 1, api.ErrArg)
}

func TestBuild(t *testing.T) {
	for _, lists := range nums(1, 2, 63, 64) {
		for _, rounds := range nums(0, 1, 20) {
			for _, none := range [][]api.Row{nil, {}} {
				hasRows(t, built(t, none, 64, lists, rounds, 7), nil)
			}
			hasRows(t, built(t, many(512), 1, lists, rounds, 7), many(512))
			ends := []api.Row{row(api.MaxId, filled(64, top)...), row(1, filled(64, -top)...)}
			hasRows(t, built(t, ends, 64, lists, rounds, 7), ends)
		}
	}
	for _, rows := range [][]api.Row{nil, four()} {
		for _, wrong := range nums(math.MinInt, -1, 65, math.MaxInt) {
			buildFails(t, rows, 2, wrong, 1, api.ErrArg)
			buildFails(t, rows, 2, 1, wrong, api.ErrArg)
			buildFails(t, rows, 2, wrong, wrong, api.ErrArg)
		}
		buildFails(t, rows, 2, 0, 1, api.ErrArg)
		buildFails(t, rows, 2, 1, 21, api.ErrArg)
	}
}

// The error of the rows comes ahead of those of lists and rounds.
func TestBuildErrorsInOrder(t *testing.T) {
	for _, lists := range nums(0, 1, 65) {
		for _, rounds := range nums(-1, 0, 21) {
			for _, dim := range nums(math.MinInt, -1, 0, 65, math.MaxInt) {
				buildFails(t, nil, dim, lists, rounds, api.ErrVecDim)
				buildFails(t, many(513), dim, lists, rounds, api.ErrVecDim)
			}
			buildFails(t, four(), 1, lists, rounds, api.ErrVecDim)
			buildFails(t, many(513), 1, lists, rounds, api.ErrLong)
			buildFails(t, make([]api.Row, 513), 1, lists, rounds, api.ErrLong)
			buildFails(t, []api.Row{row(0)}, 1, lists, rounds, api.ErrFlatId)
			buildFails(t, []api.Row{row(api.MaxId+1, 1)}, 1, lists, rounds, api.ErrFlatId)
			buildFails(t, []api.Row{row(7, 1), row(8, 1), row(7, 2)}, 1, lists, rounds, api.ErrFlatId)
			buildFails(t, []api.Row{row(7)}, 1, lists, rounds, api.ErrVecDim)
			buildFails(t, []api.Row{row(7, top+1)}, 1, lists, rounds, api.ErrVecCoord)
			buildFails(t, []api.Row{row(7, 0), row(8, math.MinInt)}, 1, lists, rounds, api.ErrVecCoord)
		}
	}
}

// P9.1: the centres are kmeans.Train's of the vectors by rising ids, in whatever order the rows are handed in; and they stay.
func TestCentres(t *testing.T) {
	s := source(5)
	for _, n := range nums(1, 2, 9, 63, 64, 65, 130) {
		for _, lists := range nums(1, 2, 10, 64) {
			for _, rounds := range nums(0, 1, 4, 20) {
				dim, seed := 1+s.below(4), uint64(s.below(1000))
				rows := s.rows(n, dim)
				var vectors [][]int
				for _, r := range rising(rows) {
					vectors = append(vectors, r.V)
				}
				want, e := kmeans.Train(vectors, min(lists, n), rounds, seed)
				if e != api.OK {
					t.Fatalf("Train: %d", e)
				}
				x := built(t, rows, dim, lists, rounds, seed)
				centresAre(t, x, want)
				hasRows(t, x, rows)
				for _, r := range rows {
					putIs(t, x, row(r.Id, s.vector(dim)...), false, api.OK)
					putIs(t, x, row(6000+r.Id, s.vector(dim)...), true, api.OK)
					deleteIs(t, x, r.Id, true)
				}
				centresAre(t, x, want)
				for _, r := range rows {
					deleteIs(t, x, 6000+r.Id, true)
				}
				centresAre(t, x, want)
				hasRows(t, x, nil)
			}
		}
	}
	for _, dim := range nums(1, 2, 64) {
		for _, lists := range nums(1, 64) {
			for _, seed := range seeds() {
				x := built(t, nil, dim, lists, 20, seed)
				putIs(t, x, row(1, filled(dim, 50)...), true, api.OK)
				centresAre(t, x, [][]int{filled(dim, 0)})
				hasRows(t, x, []api.Row{row(1, filled(dim, 50)...)})
			}
		}
	}
}

func TestPut(t *testing.T) {
	x := built(t, many(511), 1, 9, 3, 7)
	rows := many(511)
	unchanged := func() { t.Helper(); hasRows(t, x, rows) }
	wrong := func() {
		t.Helper()
		for _, id := range nums(math.MinInt, -1, 0, api.MaxId+1, math.MaxInt) {
			putIs(t, x, row(id, 1), false, api.ErrFlatId)
			putIs(t, x, row(id), false, api.ErrFlatId)
			putIs(t, x, row(id, top+1), false, api.ErrFlatId)
		}
		for _, id := range nums(1, 900) {
			putIs(t, x, row(id), false, api.ErrVecDim)
			putIs(t, x, row(id, 1, 2), false, api.ErrVecDim)
			putIs(t, x, row(id, filled(65, 0)...), false, api.ErrVecDim)
			putIs(t, x, row(id, top+1), false, api.ErrVecCoord)
			putIs(t, x, row(id, -top-1), false, api.ErrVecCoord)
			putIs(t, x, row(id, math.MinInt), false, api.ErrVecCoord)
		}
		unchanged()
	}
	wrong()
	putIs(t, x, row(api.MaxId, top), true, api.OK)
	rows = append(rows, row(api.MaxId, top))
	wrong()
	putIs(t, x, row(512, 0), false, api.ErrLong)
	unchanged()
	// A full tree takes a row in place of another.
	putIs(t, x, row(1, -top), false, api.OK)
	rows[0] = row(1, -top)
	unchanged()
	putIs(t, x, row(512, 0), false, api.ErrLong)
	deleteIs(t, x, 2, true)
	putIs(t, x, row(512, 0), true, api.OK)
	rows[1] = row(512, 0)
	unchanged()
	for _, k := range nums(1, 64) {
		searchIs(t, x, rows, nums(0), k, 512)
	}
}

func TestDelete(t *testing.T) {
	x := built(t, four(), 2, 3, 5, 7)
	for _, id := range nums(math.MinInt, -1, 0, 5, api.MaxId, api.MaxId+1, math.MaxInt) {
		deleteIs(t, x, id, false)
	}
	hasRows(t, x, four())
	for i, id := range nums(3, 1, 4, 2) {
		deleteIs(t, x, id, true)
		deleteIs(t, x, id, false)
		if x.Len() != 3-i {
			t.Errorf("P9.3: %d rows are left", x.Len())
		}
	}
	// A tree without rows is certain of nothing, and takes rows again.
	for _, budget := range nums(0, 1, api.MaxBudget) {
		if a, _ := searchIs(t, x, nil, nums(1, 1), 64, budget); len(a.Hits)+len(a.Seen)+len(a.Rest) != 0 {
			t.Errorf("P9.4: without rows: %+v", a)
		}
	}
	putIs(t, x, row(3, 5, 5), true, api.OK)
	hasRows(t, x, []api.Row{row(3, 5, 5)})
	searchIs(t, x, []api.Row{row(3, 5, 5)}, nums(1, 1), 64, 1)
}

// wrongQuestions are vectors that are none of dimension 2, by their error.
func wrongQuestions() map[api.Errno][][]int {
	return map[api.Errno][][]int{
		api.ErrVecDim:   {nil, {}, {0}, {0, 0, 0}, filled(65, 0), {top + 1}},
		api.ErrVecCoord: {{top + 1, 0}, {0, -top - 1}, {math.MinInt, math.MaxInt}},
	}
}

func TestSearchErrors(t *testing.T) {
	for _, x := range []*Tree{built(t, four(), 2, 2, 1, 7), built(t, nil, 2, 64, 0, 7)} {
		for _, k := range nums(1, 64) {
			for _, budget := range nums(0, api.MaxBudget) {
				searchIs(t, x, x.Rows(), nums(top, -top), k, budget)
			}
		}
		for _, wrong := range nums(math.MinInt, -1, math.MaxInt) {
			searchFails(t, x, nums(0, 0), wrong, 1, api.ErrArg)
			searchFails(t, x, nums(0, 0), 1, wrong, api.ErrArg)
			searchFails(t, x, nums(0, 0), wrong, wrong, api.ErrArg)
		}
		searchFails(t, x, nums(0, 0), 65, 1, api.ErrArg)
		searchFails(t, x, nums(0, 0), 1, api.MaxBudget+1, api.ErrArg)
		// The error of the question comes first.
		for _, k := range nums(0, 1, 65) {
			for _, budget := range nums(-1, 0, api.MaxBudget+1) {
				for e, wrong := range wrongQuestions() {
					for _, q := range wrong {
						searchFails(t, x, q, k, budget, e)
					}
				}
			}
		}
	}
}

func TestList(t *testing.T) {
	for n := 1; n <= 70; n++ {
		x := built(t, many(n), 1, 64, 0, 7)
		for _, i := range nums(math.MinInt, -1, min(n, 64), 64, math.MaxInt) {
			listIs(t, x, i, nil, api.ErrArg)
		}
		hasRows(t, x, many(n))
	}
	// Of two centres that are the same the first has the rows.
	x := built(t, []api.Row{row(5, 3, 3), row(9, 3, 3), row(2, 3, 3)}, 2, 2, 20, 7)
	centresAre(t, x, [][]int{{3, 3}, {3, 3}})
	listIs(t, x, 0, nums(2, 5, 9), api.OK)
	listIs(t, x, 1, nil, api.OK)
	// And so of two that are as near.
	x = built(t, []api.Row{row(1, -10), row(2, 10)}, 1, 2, 0, 7)
	putIs(t, x, row(3, 0), true, api.OK)
	centre := x.Centres()[0][0]
	ids := nums(1, 3)
	if centre == 10 {
		ids = nums(2, 3)
	}
	listIs(t, x, 0, ids, api.OK)
	// A row that is put again changes over to another list; a list that is emptied is told as empty.
	putIs(t, x, row(3, -centre), false, api.OK)
	listIs(t, x, 0, ids[:1], api.OK)
	listIs(t, x, 1, nums(3-ids[0], 3), api.OK)
	deleteIs(t, x, ids[0], true)
	listIs(t, x, 0, nil, api.OK)
	listIs(t, x, 2, nil, api.ErrArg)
	putIs(t, x, row(7, centre), true, api.OK)
	listIs(t, x, 0, nums(7), api.OK)
}

func TestNearest(t *testing.T) {
	for _, x := range []*Tree{built(t, four(), 2, 2, 1, 7), built(t, nil, 2, 64, 0, 7)} {
		for _, n := range nums(math.MinInt, -1, 65, math.MaxInt) {
			nearestIs(t, x, nums(0, 0), n, nil, api.ErrArg)
		}
		for _, n := range nums(-1, 0, 1, 64, 65) {
			for e, wrong := range wrongQuestions() {
				for _, q := range wrong {
					nearestIs(t, x, q, n, nil, e)
				}
			}
		}
	}
	s := source(31)
	for _, count := range nums(1, 2, 5, 63, 64, 100) {
		for dim := 1; dim <= 3; dim++ {
			rows := s.rows(count, dim)
			x := built(t, rows, dim, 64, s.below(3), uint64(s.below(99)))
			for range 8 {
				q := s.vector(dim)
				want := plainOrder(x.Centres(), q)
				for _, n := range nums(0, 1, 2, 3, 31, 62, 63, 64) {
					nearestIs(t, x, q, n, first(n, want), api.OK)
				}
			}
			// Centres that have no rows any more are told as well.
			for _, r := range rows {
				deleteIs(t, x, r.Id, true)
			}
			q := s.vector(dim)
			nearestIs(t, x, q, 64, plainOrder(x.Centres(), q), api.OK)
		}
	}
}

// R3: a nil tree.
func TestNil(t *testing.T) {
	var x *Tree
	for _, r := range []api.Row{{}, row(1, 1), row(0, 1), row(1), row(1, top+1)} {
		putIs(t, x, r, false, api.ErrNil)
	}
	for _, id := range nums(-1, 0, 1) {
		if was, e := x.Delete(id); was || e != api.ErrNil {
			t.Errorf("R3: Delete(%d): %v, %d", id, was, e)
		}
		listIs(t, x, id, nil, api.ErrNil)
	}
	if x.Len() != 0 || len(x.Rows()) != 0 || len(x.Centres()) != 0 {
		t.Errorf("R3: %d rows, %v, %v", x.Len(), x.Rows(), x.Centres())
	}
	for _, q := range [][]int{nil, {0}, {top + 1}, filled(65, 0)} {
		for _, n := range nums(-1, 1, api.MaxBudget+1) {
			searchFails(t, x, q, n, n, api.ErrNil)
			nearestIs(t, x, q, n, nil, api.ErrNil)
		}
	}
}

// P9.4 at every budget: the rows of a list that may not all be looked at are told in part.
func TestBudgets(t *testing.T) {
	s := source(7)
	for _, lists := range nums(1, 2, 5, 40, 64) {
		rows := s.rows(40, 2)
		x := built(t, rows, 2, lists, 3, 7)
		for range 5 {
			q := s.vector(2)
			for budget := range 45 {
				for _, k := range nums(1, 3, 39, 40, 41, 64) {
					searchIs(t, x, rows, q, k, budget)
				}
			}
		}
	}
}

// How a tree was built changes no answer that is certain; lists are of use, as far ones are not looked at.
func TestListsRoundsAndSeed(t *testing.T) {
	var rows []api.Row
	for i := range 512 {
		rows = append(rows, row(i+1, i%32*10, i/32*10))
	}
	for lists := 1; lists <= 64; lists++ {
		for _, seed := range []uint64{0, math.MaxUint64, uint64(lists) * 99} {
			x := built(t, rows, 2, lists, lists%21, seed)
			a, certain := searchIs(t, x, rows, nums(101, 52), 3, 512)
			if want := []api.Hit{hit(171, 5), hit(203, 65), hit(172, 85)}; !certain || !slices.Equal(a.Hits, want) {
				t.Errorf("P9.4: with %d, %d: %+v", lists, seed, a)
			}
			if lists >= 32 && len(a.Seen) > 200 {
				t.Errorf("of 512 rows in %d lists %d are seen", lists, len(a.Seen))
			}
		}
	}
}

// The list whose centre is nearest is looked at first, so that a small budget tells near rows.
func TestNearestListFirst(t *testing.T) {
	rows := []api.Row{row(1, 0), row(2, 1), row(3, 1000), row(4, 1001)}
	for _, seed := range seeds() {
		x := built(t, rows, 1, 2, 20, seed)
		for _, c := range []struct{ q, first, second int }{{0, 1, 2}, {400, 1, 2}, {600, 3, 4}, {5000, 3, 4}} {
			a, certain := searchIs(t, x, rows, nums(c.q), 1, 2)
			if !certain || !slices.Equal(a.Seen, nums(c.first, c.second)) || len(a.Rest) != 1 {
				t.Errorf("P9.4: for %d: %+v, certain %v", c.q, a, certain)
			}
			a, certain = searchIs(t, x, rows, nums(c.q), 1, 1)
			if certain || !slices.Equal(a.Seen, nums(c.first)) || len(a.Rest) != 2 {
				t.Errorf("P9.4: for %d: %+v, certain %v", c.q, a, certain)
			}
		}
	}
}

// A list that is too far is passed over, and one whose centre is farther is looked at, as its ball comes nearer.
func TestFarListIsPassedOver(t *testing.T) {
	rows := []api.Row{row(1, 0), row(2, 20), row(3, -40)}
	all := append(slices.Clone(rows), row(4, -21), row(5, 9))
	for _, seed := range seeds() {
		x := built(t, rows, 1, 3, 0, seed)
		putIs(t, x, row(4, -21), true, api.OK)
		putIs(t, x, row(5, 9), true, api.OK)
		a, certain := searchIs(t, x, all, nums(-6), 2, 5)
		if !certain || !slices.Equal(a.Hits, []api.Hit{hit(1, 36), hit(4, 225)}) || !slices.Equal(a.Seen, nums(1, 3, 4, 5)) {
			t.Errorf("P9.4: %+v, certain %v", a, certain)
		}
	}
}

// A ball whose bound is just the last hit's distance may have a row of that distance and a lesser id.
func TestBoundThatIsMet(t *testing.T) {
	rows := []api.Row{row(9, 0), row(8, 1), row(2, 10), row(1, 11)}
	for _, lists := range nums(1, 2, 4) {
		x := built(t, rows, 1, lists, 0, 7)
		for budget := range 5 {
			a, certain := searchIs(t, x, rows, nums(5), 1, budget)
			if certain && !slices.Equal(a.Hits, []api.Hit{hit(8, 16)}) {
				t.Errorf("P9.4: %+v", a)
			}
		}
	}
	rows = []api.Row{row(9, -5), row(2, 5)}
	for _, seed := range seeds() {
		x := built(t, rows, 1, 2, 0, seed)
		a, _ := searchIs(t, x, rows, nums(0), 1, 2)
		if !slices.Equal(a.Hits, []api.Hit{hit(2, 25)}) {
			t.Errorf("P9.4: %+v", a)
		}
	}
}

// Rows that are all the same have centres that are all the same.
func TestSameVectors(t *testing.T) {
	var rows []api.Row
	for i := range 200 {
		rows = append(rows, row(1+i*37%200, 4, 4))
	}
	for _, lists := range nums(1, 7, 64) {
		x := built(t, rows[:100], 2, lists, 3, 7)
		for _, r := range rows[100:] {
			putIs(t, x, r, true, api.OK)
		}
		hasRows(t, x, rows)
		for _, budget := range nums(0, 1, 63, 64, 199, 200) {
			searchIs(t, x, rows, nums(4, 4), 64, budget)
			searchIs(t, x, rows, nums(9, 9), 5, budget)
		}
		for _, r := range rows[:150] {
			deleteIs(t, x, r.Id, true)
		}
		hasRows(t, x, rows[150:])
		searchIs(t, x, rows[150:], nums(0, 0), 64, 512)
	}
}

// T1: distances of 70 bits, in all dimensions.
func TestGreatestDistances(t *testing.T) {
	for dim := 1; dim <= 64; dim++ {
		rows := []api.Row{row(1, filled(dim, top)...), row(2, filled(dim, -top)...), row(3, filled(dim, 0)...)}
		for lists := 1; lists <= 3; lists++ {
			x := built(t, rows, dim, lists, lists, 7)
			hasRows(t, x, rows)
			for budget := range 4 {
				for k := 1; k <= 3; k++ {
					searchIs(t, x, rows, filled(dim, top), k, budget)
				}
			}
			nearestIs(t, x, filled(dim, -top), 64, plainOrder(x.Centres(), filled(dim, -top)), api.OK)
		}
	}
}

// T5: what a tree has hangs on what was put and deleted, whatever it was built of; T2, T4: its answers are as they should be all the time.
func TestChanges(t *testing.T) {
	s := source(11)
	for round := range 60 {
		dim, lists := 1+s.below(4), nums(1, 2, 3, 8, 64)[s.below(5)]
		if round%10 == 9 {
			dim = 64
		}
		start := s.rows(s.below(60), dim)
		x := built(t, start, dim, lists, s.below(21), uint64(round))
		centres := x.Centres()
		kept := map[int][]int{}
		for _, r := range start {
			kept[r.Id] = r.V
		}
		some := func() int {
			ids := slices.Sorted(maps.Keys(kept))
			if len(ids) == 0 || s.below(3) == 0 {
				return 1 + s.below(100)
			}
			return ids[s.below(len(ids))]
		}
		// Some rounds grow, others shrink, so that trees are emptied and filled again.
		puts := 2 + s.below(7)
		for range 80 {
			id := some()
			_, had := kept[id]
			if s.below(10) < puts {
				v := s.vector(dim)
				putIs(t, x, row(id, v...), !had, api.OK)
				kept[id] = v
			} else {
				deleteIs(t, x, id, had)
				delete(kept, id)
			}
			var rows []api.Row
			for _, id := range slices.Sorted(maps.Keys(kept)) {
				rows = append(rows, row(id, kept[id]...))
			}
			hasRows(t, x, rows)
			q, k := s.vector(dim), 1+s.below(12)
			searchIs(t, x, rows, q, k, s.below(len(rows)+3))
			full, _ := searchIs(t, x, rows, q, k, api.MaxBudget)
			fresh, _ := searchIs(t, built(t, rows, dim, 5, 1, uint64(round)), rows, q, k, len(rows))
			if !slices.Equal(full.Hits, fresh.Hits) {
				t.Fatalf("P9.9: %v: a tree that is built of the same rows: %v", full.Hits, fresh.Hits)
			}
		}
		centresAre(t, x, centres)
	}
}

// A tree that is filled row by row, in order, to its limit, and emptied from either end.
func TestFillAndEmpty(t *testing.T) {
	for _, start := range nums(0, 1, 64, 256) {
		rows := many(512)
		x := built(t, rows[:start], 1, 64, 3, 7)
		for i, r := range rows[start:] {
			putIs(t, x, r, true, api.OK)
			if i%37 == 0 {
				hasRows(t, x, rows[:start+i+1])
				searchIs(t, x, rows[:start+i+1], nums(i/2), 4, 1+i/3)
			}
		}
		hasRows(t, x, rows)
		searchIs(t, x, rows, nums(300), 2, 512)
		for len(rows) > 0 {
			if len(rows)%2 == 0 {
				deleteIs(t, x, rows[0].Id, true)
				rows = rows[1:]
			} else {
				deleteIs(t, x, rows[len(rows)-1].Id, true)
				rows = rows[:len(rows)-1]
			}
			if len(rows)%41 == 0 {
				hasRows(t, x, rows)
				searchIs(t, x, rows, nums(256), 3, len(rows)/2)
				searchIs(t, x, rows, nums(256), 3, len(rows))
			}
		}
		hasRows(t, x, nil)
	}
}

// Balls fit their rows again as others go: what is far is known to be far.
func TestBallsFit(t *testing.T) {
	rows := []api.Row{row(1, 0), row(2, 1), row(3, 100), row(4, 101)}
	for _, seed := range seeds() {
		x := built(t, rows, 1, 2, 20, seed)
		for i := range 20 {
			putIs(t, x, row(10+i, 60+i*1000), true, api.OK)
		}
		for i := range 20 {
			deleteIs(t, x, 10+i, true)
		}
		putIs(t, x, row(4, 5000), false, api.OK)
		putIs(t, x, row(4, 101), false, api.OK)
		a, certain := searchIs(t, x, rows, nums(0), 1, 4)
		if !certain || !slices.Equal(a.Seen, nums(1, 2)) || len(a.Rest) != 1 || a.Rest[0].Radius != lo(1) {
			t.Errorf("P9.4: %+v", a)
		}
	}
}

// R1: calls that fail, and those that only ask, change nothing. P9.1: the seed tells the centres.
func TestSeedTellsCentres(t *testing.T) {
	s := source(3)
	rows := s.rows(100, 2)
	changed := func(seed uint64, between func(x *Tree)) (api.Answer, [][]int) {
		x := built(t, rows, 2, 9, 2, seed)
		for i := range 30 {
			putIs(t, x, row(6000+i, i, -i), true, api.OK)
			putIs(t, x, row(rows[i].Id, i, i), false, api.OK)
			between(x)
			deleteIs(t, x, rows[50+i].Id, true)
		}
		a, _ := x.Search(nums(1, 1), 5, 20)
		return a, x.Centres()
	}
	one, centres := changed(1, func(x *Tree) {})
	if _, other := changed(2, func(x *Tree) {}); reflect.DeepEqual(other, centres) {
		t.Errorf("P9.1: another seed changes nothing: %v", centres)
	}
	again, still := changed(1, func(x *Tree) {
		putIs(t, x, row(0, 1, 1), false, api.ErrFlatId)
		putIs(t, x, row(rows[1].Id, 1), false, api.ErrVecDim)
		putIs(t, x, row(rows[2].Id, 1, top+1), false, api.ErrVecCoord)
		deleteIs(t, x, 7000, false)
		listIs(t, x, 9, nil, api.ErrArg)
		nearestIs(t, x, nums(1, 1), 65, nil, api.ErrArg)
		hasRows(t, x, x.Rows())
		x.Search(nums(5, 5), 3, 15)
	})
	if !reflect.DeepEqual(again, one) || !reflect.DeepEqual(still, centres) {
		t.Errorf("R1: %+v, then %+v; %v, then %v", one, again, centres, still)
	}
}

// R2: what is handed in is not written into, nor its spare room, and is not kept.
func TestNothingIsWrittenOrKept(t *testing.T) {
	room := func() []api.Row { return append(four(), row(99, 8, 8), row(98, 9, 9)) }
	rows, q, v := room(), nums(3, 4, 77), nums(1, 1, 55)
	slices.Reverse(rows[:4])
	x := built(t, rows[:4], 2, 4, 0, 7)
	centres := x.Centres()
	putIs(t, x, api.Row{Id: 6, V: v[:2]}, true, api.OK)
	for budget := range 7 {
		x.Search(q[:2], 2, budget)
		x.Nearest(q[:2], budget)
	}
	slices.Reverse(rows[:4])
	if !reflect.DeepEqual(rows, room()) || !slices.Equal(q, nums(3, 4, 77)) || !slices.Equal(v, nums(1, 1, 55)) {
		t.Errorf("R2: left behind: %v, %v, %v", rows, q, v)
	}
	for i := range rows {
		rows[i].Id, rows[i].V[0] = 55, 1000
	}
	v[0] = 1000
	centresAre(t, x, centres)
	hasRows(t, x, append(four(), row(6, 1, 1)))
	searchIs(t, x, append(four(), row(6, 1, 1)), nums(3, 4), 2, 5)
}

// spoil writes a number of its own into each list, and into its spare room, and tells whether all of them keep it.
func spoil(lists [][]int) bool {
	for i, l := range lists {
		for j := range l[:cap(l)] {
			l[:cap(l)][j] = -100 - i
		}
	}
	for i, l := range lists {
		for _, n := range l {
			if n != -100-i {
				return false
			}
		}
	}
	return true
}

// R2: what comes out is new memory, of which no two lists share any.
func TestAnswersAreNew(t *testing.T) {
	rows := append(four(), row(5, 1, 1), row(6, 2, 2), row(7, 40, 30))
	for _, count := range nums(1, 2, 5, 64) {
		x := built(t, rows, 2, count, 2, 7)
		centres := x.Centres()
		for budget := range 8 {
			was, _ := x.Search(nums(1, 0), 2, budget)
			a, _ := x.Search(nums(1, 0), 2, budget)
			lists := [][]int{a.Seen}
			for _, r := range a.Rest {
				lists = append(lists, r.Lo, r.Hi, r.Ids)
			}
			for i := range a.Hits {
				a.Hits[i] = hit(77, 77)
			}
			if !spoil(lists) {
				t.Fatalf("R2: two lists of an answer share memory")
			}
			if again, _ := x.Search(nums(1, 0), 2, budget); !reflect.DeepEqual(again, was) {
				t.Fatalf("R2: asked again: %+v: want %+v", again, was)
			}
		}
		lists := x.Centres()
		for i := range centres {
			ids, _ := x.List(i)
			places, _ := x.Nearest(nums(1, 1), i)
			lists = append(lists, ids, places)
		}
		for _, r := range x.Rows() {
			lists = append(lists, r.V)
		}
		if !spoil(lists) {
			t.Fatalf("R2: two lists share memory")
		}
		centresAre(t, x, centres)
		hasRows(t, x, rows)
		searchIs(t, x, rows, nums(1, 0), 2, 7)
	}
}

// Lists that grow, in whatever order, write over none that stand beside them.
func TestListsAreApart(t *testing.T) {
	var rows []api.Row
	for i := range 8 {
		rows = append(rows, row(100+i, i*1000), row(300-i, i*1000+1))
	}
	for _, seed := range seeds() {
		x := built(t, rows, 1, 8, 20, seed)
		all := slices.Clone(rows)
		for i := range 8 {
			for _, r := range []api.Row{row(1+i, i*1000+2), row(200+i, i*1000+3), row(400+i, i*1000+4)} {
				putIs(t, x, r, true, api.OK)
				all = append(all, r)
				hasRows(t, x, all)
			}
		}
		for _, r := range all[:16] {
			deleteIs(t, x, r.Id, true)
		}
		hasRows(t, x, all[16:])
		searchIs(t, x, all[16:], nums(3003), 5, 12)
	}
}

// R2: trees know nothing of one another, and an answer nothing of later calls.
func TestTreesAreApart(t *testing.T) {
	rows := four()
	x, y := built(t, rows, 2, 2, 5, 7), built(t, rows, 2, 2, 5, 7)
	was, _ := x.Search(nums(0, 0), 1, 1)
	kept, _ := x.Search(nums(0, 0), 1, 1)
	all := x.Rows()
	before, _ := x.List(0)
	ids, _ := x.List(0)
	for _, r := range rows {
		putIs(t, x, row(r.Id, 500, 500), false, api.OK)
	}
	deleteIs(t, x, 4, true)
	hasRows(t, y, four())
	searchIs(t, y, four(), nums(0, 0), 1, 4)
	if !reflect.DeepEqual(kept, was) || !reflect.DeepEqual(all, four()) || !slices.Equal(ids, before) {
		t.Errorf("R2: answers have changed: %+v, %v, %v", kept, all, ids)
	}
}
