package hnsw

import (
	"cmp"
	"maps"
	"math"
	"math/big"
	"reflect"
	"slices"
	"testing"

	"theodolite/api"
	"theodolite/rand"
	"theodolite/vec"
	"theodolite/wide"
)

const top = api.MaxCoord

func lo(n uint64) api.Wide { return api.Wide{Lo: n} }

func nums(v ...int) []int { return v }

func row(id int, v ...int) api.Row { return api.Row{Id: id, V: v} }

func hit(id int, far uint64) api.Hit { return api.Hit{Id: id, Dist: lo(far)} }

// filled is a vector of n coordinates, all x.
func filled(n, x int) []int { return slices.Repeat(nums(x), n) }

// many is n rows of one coordinate, with the ids 1 to n.
func many(n int) []api.Row {
	var rows []api.Row
	for i := range n {
		rows = append(rows, row(i+1, i))
	}
	return rows
}

// four are the rows of the chapter's table.
func four() []api.Row {
	return []api.Row{row(1, 0, 0), row(2, 3, 4), row(3, 0, 1), row(4, 30, 40)}
}

// seeds are some with which trees are built that should answer alike.
func seeds() []uint64 { return []uint64{0, 1, 7, 1 << 63, math.MaxUint64} }

func built(t *testing.T, rows []api.Row, dim, links int, seed uint64) *Tree {
	t.Helper()
	x, e := Build(rows, dim, links, seed)
	if x == nil || e != api.OK {
		t.Fatalf("P11.1: Build of %d rows, %d, %d, %d: %v, %d", len(rows), dim, links, seed, x, e)
	}
	return x
}

func buildFails(t *testing.T, rows []api.Row, dim, links int, e api.Errno) {
	t.Helper()
	for _, seed := range seeds() {
		if x, got := Build(rows, dim, links, seed); x != nil || got != e {
			t.Errorf("P11.1: Build of %d rows, %d, %d, %d: %v, %d: want %d", len(rows), dim, links, seed, x, got, e)
		}
	}
}

func putIs(t *testing.T, x *Tree, r api.Row, fresh bool, e api.Errno) {
	t.Helper()
	if got, err := x.Put(r); got != fresh || err != e {
		t.Errorf("P11.2: Put(%v): %v, %d: want %v, %d", r, got, err, fresh, e)
	}
}

func deleteIs(t *testing.T, x *Tree, id int, was bool) {
	t.Helper()
	if got, e := x.Delete(id); got != was || e != api.OK {
		t.Errorf("P11.2: Delete(%d): %v, %d: want %v", id, got, e, was)
	}
}

func rising(rows []api.Row) []api.Row {
	return slices.SortedFunc(slices.Values(rows), func(a, b api.Row) int { return cmp.Compare(a.Id, b.Id) })
}

func searchFails(t *testing.T, x *Tree, q []int, k, budget int, e api.Errno) {
	t.Helper()
	if a, got := x.Search(q, k, budget); !reflect.DeepEqual(a, api.Answer{}) || got != e {
		t.Errorf("P11.4: Search(%v, %d, %d): %+v, %d: want %d", q, k, budget, a, got, e)
	}
}

// plainDist says the distance anew, by numbers that have no end.
func plainDist(a, b []int) *big.Int {
	sum := new(big.Int)
	for i := range a {
		d := big.NewInt(int64(a[i]) - int64(b[i]))
		sum.Add(sum, d.Mul(d, d))
	}
	return sum
}

// plainHits says the hits of rows for q anew, in order.
func plainHits(rows []api.Row, q []int) []api.Hit {
	type far struct {
		id   int
		dist *big.Int
	}
	var all []far
	for _, r := range rows {
		all = append(all, far{r.Id, plainDist(r.V, q)})
	}
	slices.SortFunc(all, func(a, b far) int { return cmp.Or(a.dist.Cmp(b.dist), a.id-b.id) })
	var hits []api.Hit
	for _, x := range all {
		low := new(big.Int).And(x.dist, new(big.Int).SetUint64(math.MaxUint64))
		hits = append(hits, api.Hit{Id: x.id, Dist: api.Wide{Hi: new(big.Int).Rsh(x.dist, 64).Uint64(), Lo: low.Uint64()}})
	}
	return hits
}

// first is the beginning of a list: k of it, or all.
func first[T any](k int, l []T) []T { return l[:min(k, len(l))] }

// hasRows asks whether the tree has just these rows, whom they know (P11.5), and on how many levels they stand (P11.6).
func hasRows(t *testing.T, x *Tree, links int, rows []api.Row) {
	t.Helper()
	same := func(a, b api.Row) bool { return a.Id == b.Id && slices.Equal(a.V, b.V) }
	want := rising(rows)
	if got := x.Rows(); x.Len() != len(rows) || !slices.EqualFunc(got, want, same) {
		t.Fatalf("P11.3: %d rows, %v: want %d, %v", x.Len(), got, len(want), want)
	}
	var ids []int
	for _, r := range want {
		ids = append(ids, r.Id)
	}
	for _, id := range ids {
		known, e := x.Known(id)
		if e != api.OK || len(known) > 2*links || len(known) != len(slices.Compact(slices.Clone(known))) || !slices.IsSorted(known) {
			t.Fatalf("P11.5: Known(%d): %v, %d: want at most %d, rising", id, known, e, 2*links)
		}
		for _, other := range known {
			if _, found := slices.BinarySearch(ids, other); !found || other == id {
				t.Fatalf("P11.5: Known(%d): %v: of the others %v", id, known, ids)
			}
		}
	}
	if got := x.Levels(); got < min(len(rows), 1) || got > 31*min(len(rows), 1) {
		t.Fatalf("P11.6: %d levels of %d rows", got, len(rows))
	}
}

func knownIs(t *testing.T, x *Tree, id int, ids []int, e api.Errno) {
	t.Helper()
	if got, err := x.Known(id); !slices.Equal(got, ids) || err != e {
		t.Fatalf("P11.5: Known(%d): %v, %d: want %v, %d", id, got, err, ids, e)
	}
}

// soundIs asks whether an answer is sound, of these rows (DOC.md, Words).
func soundIs(t *testing.T, rows []api.Row, q []int, k int, a api.Answer) {
	t.Helper()
	vectors := map[int][]int{}
	for _, r := range rows {
		vectors[r.Id] = r.V
	}
	together := slices.Clone(a.Seen)
	for _, r := range a.Rest {
		if e := vec.CheckRegion(r, len(q)); e != api.OK || len(r.Ids) == 0 {
			t.Fatalf("T2: a region %+v: %d", r, e)
		}
		for _, id := range r.Ids {
			if in, e := vec.Inside(r, vectors[id]); !in || e != api.OK {
				t.Fatalf("T2: %d, %v is not in %+v", id, vectors[id], r)
			}
		}
		together = append(together, r.Ids...)
	}
	slices.Sort(together)
	if ids := slices.Sorted(maps.Keys(vectors)); !slices.Equal(together, ids) || !slices.IsSorted(a.Seen) {
		t.Fatalf("T2: Seen %v and Rest %v: want each of %v once, and rising", a.Seen, a.Rest, ids)
	}
	var seen []api.Row
	for _, id := range a.Seen {
		seen = append(seen, row(id, vectors[id]...))
	}
	if want := first(k, plainHits(seen, q)); !slices.Equal(a.Hits, want) {
		t.Fatalf("T2: the first %d for %v of %v: %v: want %v", k, q, a.Seen, a.Hits, want)
	}
}

// isCertain tells whether a sound answer is certain (DOC.md, Words).
func isCertain(t *testing.T, q []int, k int, a api.Answer) bool {
	t.Helper()
	if len(a.Rest) == 0 {
		return true
	}
	if len(a.Hits) != k {
		return false
	}
	for _, r := range a.Rest {
		bound, e := vec.Bound(r, q)
		if e != api.OK {
			t.Fatalf("T2: no bound of %+v: %d", r, e)
		}
		if wide.Cmp(bound, a.Hits[k-1].Dist) <= 0 {
			return false
		}
	}
	return true
}

// searchIs asks whether a search of a tree that should have these rows answers as DOC.md says. It tells the answer, and whether it is certain.
func searchIs(t *testing.T, x *Tree, rows []api.Row, q []int, k, budget int) (api.Answer, bool) {
	t.Helper()
	a, e := x.Search(q, k, budget)
	if e != api.OK {
		t.Fatalf("P11.4: Search(%v, %d, %d): %d", q, k, budget, e)
	}
	soundIs(t, rows, q, k, a)
	certain := isCertain(t, q, k, a)
	if len(a.Seen) != min(budget, len(rows)) {
		t.Fatalf("P11.4: %d are seen of %d that may be", len(a.Seen), budget)
	}
	for _, r := range a.Rest {
		if r.Shape != api.ShapeAll || len(a.Rest) != 1 {
			t.Fatalf("P11.4: what it has not seen lies anywhere: %+v", a.Rest)
		}
	}
	if budget >= len(rows) && !certain {
		t.Fatalf("T4: all %d might be seen, and it is not certain: %+v", len(rows), a)
	}
	if want := first(k, plainHits(rows, q)); certain && !slices.Equal(a.Hits, want) {
		t.Fatalf("T2: certain of %v: want %v", a.Hits, want)
	}
	if again, _ := x.Search(q, k, budget); !reflect.DeepEqual(again, a) {
		t.Fatalf("P11.4: asked again: %+v, then %+v", a, again)
	}
	return a, certain
}

// source gives the same numbers in every run.
type source uint64

func (s *source) below(n int) int {
	*s ^= *s << 13
	*s ^= *s >> 7
	*s ^= *s << 17
	return int(uint64(*s) % uint64(n))
}

// vector is one of dimension dim: its coordinates are so near to nought that many rows are the same, or anywhere, or at the ends.
func (s *source) vector(dim int) []int {
	v := make([]int, dim)
	how := s.below(5)
	for i := range v {
		switch how {
		case 0:
			v[i] = s.below(2*top+1) - top
		case 1:
			v[i] = nums(-top, top)[s.below(2)]
		case 2:
			v[i] = s.below(200) - 100
		default:
			v[i] = s.below(5) - 2
		}
	}
	return v
}

// rows are n of dimension dim, whose ids neither rise nor fall: 5021 is a prime, so that none stands twice.
func (s *source) rows(n, dim int) []api.Row {
	var rows []api.Row
	step := 1 + s.below(5020)
	for i := range n {
		rows = append(rows, row((i+1)*step%5021, s.vector(dim)...))
	}
	return rows
}

// The chapter's table, line by line.
func TestExamples(t *testing.T) {
	for _, seed := range seeds() {
		x := built(t, four(), 2, 1, seed)
		if x.Len() != 4 {
			t.Errorf("P11.3: %d rows", x.Len())
		}
		a, certain := searchIs(t, x, four(), nums(0, 0), 2, 4)
		if !certain || !slices.Equal(a.Hits, []api.Hit{hit(1, 0), hit(3, 1)}) {
			t.Errorf("P11.4: %+v", a)
		}
		a, certain = searchIs(t, x, four(), nums(0, 0), 2, 1)
		if certain || len(a.Seen) != 1 || len(a.Hits) != 1 || len(a.Rest) != 1 || len(a.Rest[0].Ids) != 3 {
			t.Errorf("P11.4: %+v", a)
		}
		putIs(t, x, row(3, 9, 9), false, api.OK)
		putIs(t, x, row(5, 0, 0), true, api.OK)
		deleteIs(t, x, 1, true)
		deleteIs(t, x, 1, false)
		a, _ = searchIs(t, x, []api.Row{row(2, 3, 4), row(3, 9, 9), row(4, 30, 40), row(5, 0, 0)}, nums(0, 0), 1, 1000)
		if !slices.Equal(a.Hits, []api.Hit{hit(5, 0)}) {
			t.Errorf("P11.4: %+v", a)
		}
		putIs(t, x, row(0, 1, 1), false, api.ErrFlatId)
		searchFails(t, x, nums(0, 0), 0, 1, api.ErrArg)
	}
	x := built(t, nil, 2, 1, 7)
	knownIs(t, x, 9, nil, api.ErrFlatId)
	if x.Levels() != 0 {
		t.Errorf("P11.6: %d levels without rows", x.Levels())
	}
	buildFails(t, four(), 3, 1, api.ErrVecDim)
	buildFails(t, four(), 2, 0, api.ErrArg)
}

func TestBuild(t *testing.T) {
	for _, links := range nums(1, 2, 15, 16) {
		for _, none := range [][]api.Row{nil, {}} {
			hasRows(t, built(t, none, 64, links, 7), links, nil)
		}
		hasRows(t, built(t, many(512), 1, links, 7), links, many(512))
		ends := []api.Row{row(api.MaxId, filled(64, top)...), row(1, filled(64, -top)...)}
		for _, seed := range seeds() {
			hasRows(t, built(t, ends, 64, links, seed), links, ends)
		}
	}
	for _, rows := range [][]api.Row{nil, four()} {
		for _, wrong := range nums(math.MinInt, -1, 0, 17, math.MaxInt) {
			buildFails(t, rows, 2, wrong, api.ErrArg)
		}
	}
}

// The error of the rows comes ahead of that of links.
func TestBuildErrorsInOrder(t *testing.T) {
	for _, links := range nums(-1, 0, 1, 16, 17) {
		for _, dim := range nums(math.MinInt, -1, 0, 65, math.MaxInt) {
			buildFails(t, nil, dim, links, api.ErrVecDim)
			buildFails(t, many(513), dim, links, api.ErrVecDim)
		}
		buildFails(t, four(), 1, links, api.ErrVecDim)
		buildFails(t, many(513), 1, links, api.ErrLong)
		buildFails(t, make([]api.Row, 513), 1, links, api.ErrLong)
		buildFails(t, []api.Row{row(0)}, 1, links, api.ErrFlatId)
		buildFails(t, []api.Row{row(api.MaxId+1, 1)}, 1, links, api.ErrFlatId)
		buildFails(t, []api.Row{row(7, 1), row(8, 1), row(7, 2)}, 1, links, api.ErrFlatId)
		buildFails(t, []api.Row{row(7)}, 1, links, api.ErrVecDim)
		buildFails(t, []api.Row{row(7, top+1)}, 1, links, api.ErrVecCoord)
		buildFails(t, []api.Row{row(7, 0), row(8, math.MinInt)}, 1, links, api.ErrVecCoord)
	}
}

func TestPut(t *testing.T) {
	x := built(t, many(511), 1, 3, 7)
	rows := many(511)
	unchanged := func() { t.Helper(); hasRows(t, x, 3, rows) }
	wrong := func() {
		t.Helper()
		for _, id := range nums(math.MinInt, -1, 0, api.MaxId+1, math.MaxInt) {
			putIs(t, x, row(id, 1), false, api.ErrFlatId)
			putIs(t, x, row(id), false, api.ErrFlatId)
			putIs(t, x, row(id, top+1), false, api.ErrFlatId)
		}
		for _, id := range nums(1, 900) {
			putIs(t, x, row(id), false, api.ErrVecDim)
			putIs(t, x, row(id, 1, 2), false, api.ErrVecDim)
			putIs(t, x, row(id, filled(65, 0)...), false, api.ErrVecDim)
			putIs(t, x, row(id, top+1), false, api.ErrVecCoord)
			putIs(t, x, row(id, -top-1), false, api.ErrVecCoord)
			putIs(t, x, row(id, math.MinInt), false, api.ErrVecCoord)
		}
		unchanged()
	}
	wrong()
	putIs(t, x, row(api.MaxId, top), true, api.OK)
	rows = append(rows, row(api.MaxId, top))
	wrong()
	putIs(t, x, row(512, 0), false, api.ErrLong)
	unchanged()
	// A full tree takes a row in place of another.
	putIs(t, x, row(1, -top), false, api.OK)
	rows[0] = row(1, -top)
	unchanged()
	putIs(t, x, row(512, 0), false, api.ErrLong)
	deleteIs(t, x, 2, true)
	putIs(t, x, row(512, 0), true, api.OK)
	rows[1] = row(512, 0)
	unchanged()
	for _, k := range nums(1, 64) {
		searchIs(t, x, rows, nums(0), k, 512)
	}
}

func TestDelete(t *testing.T) {
	x := built(t, four(), 2, 1, 7)
	for _, id := range nums(math.MinInt, -1, 0, 5, api.MaxId, api.MaxId+1, math.MaxInt) {
		deleteIs(t, x, id, false)
	}
	hasRows(t, x, 1, four())
	for i, id := range nums(3, 1, 4, 2) {
		deleteIs(t, x, id, true)
		deleteIs(t, x, id, false)
		knownIs(t, x, id, nil, api.ErrFlatId)
		if x.Len() != 3-i {
			t.Errorf("P11.3: %d rows are left", x.Len())
		}
	}
	hasRows(t, x, 1, nil)
	// A tree without rows is certain of nothing, and takes rows again.
	for _, budget := range nums(0, 1, api.MaxBudget) {
		if a, _ := searchIs(t, x, nil, nums(1, 1), 64, budget); len(a.Hits)+len(a.Seen)+len(a.Rest) != 0 {
			t.Errorf("P11.4: without rows: %+v", a)
		}
	}
	putIs(t, x, row(3, 5, 5), true, api.OK)
	hasRows(t, x, 1, []api.Row{row(3, 5, 5)})
	knownIs(t, x, 3, nil, api.OK)
	searchIs(t, x, []api.Row{row(3, 5, 5)}, nums(1, 1), 64, 1)
}

func TestSearchErrors(t *testing.T) {
	wrongQuestions := map[api.Errno][][]int{
		api.ErrVecDim:   {nil, {}, {0}, {0, 0, 0}, filled(65, 0), {top + 1}},
		api.ErrVecCoord: {{top + 1, 0}, {0, -top - 1}, {math.MinInt, math.MaxInt}},
	}
	for _, x := range []*Tree{built(t, four(), 2, 2, 7), built(t, nil, 2, 16, 7)} {
		for _, k := range nums(1, 64) {
			for _, budget := range nums(0, api.MaxBudget) {
				searchIs(t, x, x.Rows(), nums(top, -top), k, budget)
			}
		}
		for _, wrong := range nums(math.MinInt, -1, math.MaxInt) {
			searchFails(t, x, nums(0, 0), wrong, 1, api.ErrArg)
			searchFails(t, x, nums(0, 0), 1, wrong, api.ErrArg)
			searchFails(t, x, nums(0, 0), wrong, wrong, api.ErrArg)
		}
		searchFails(t, x, nums(0, 0), 0, 1, api.ErrArg)
		searchFails(t, x, nums(0, 0), 65, 1, api.ErrArg)
		searchFails(t, x, nums(0, 0), 1, api.MaxBudget+1, api.ErrArg)
		// The error of the question comes first.
		for _, k := range nums(0, 1, 65) {
			for _, budget := range nums(-1, 0, api.MaxBudget+1) {
				for e, wrong := range wrongQuestions {
					for _, q := range wrong {
						searchFails(t, x, q, k, budget, e)
					}
				}
			}
		}
	}
}

// P11.5: two rows know each other; of many each knows as many as it may, unless there are too few.
func TestKnown(t *testing.T) {
	for _, seed := range seeds() {
		for links := 1; links <= 16; links++ {
			x := built(t, []api.Row{row(9, 5), row(4, 7)}, 1, links, seed)
			knownIs(t, x, 9, nums(4), api.OK)
			knownIs(t, x, 4, nums(9), api.OK)
			for _, id := range nums(math.MinInt, -1, 0, 1, 5, api.MaxId, api.MaxId+1, math.MaxInt) {
				knownIs(t, x, id, nil, api.ErrFlatId)
			}
			deleteIs(t, x, 4, true)
			knownIs(t, x, 9, nil, api.OK)
			knownIs(t, x, 4, nil, api.ErrFlatId)
		}
	}
	s := source(13)
	for links := 1; links <= 16; links++ {
		rows := s.rows(100, 3)
		x := built(t, rows, 3, links, uint64(links))
		hasRows(t, x, links, rows)
		for _, r := range rows[50:] {
			if known, _ := x.Known(r.Id); len(known) < 2*links {
				t.Errorf("P11.5: with %d, %d knows %v alone", links, r.Id, known)
			}
		}
	}
	// With few rows all know one another.
	x := built(t, four(), 2, 2, 7)
	for id := 1; id <= 4; id++ {
		knownIs(t, x, id, slices.DeleteFunc(nums(1, 2, 3, 4), func(n int) bool { return n == id }), api.OK)
	}
}

// seedOf tells a seed with which the row of this id stands on that level: what rand does to a seed is undone, step by step.
func seedOf(t *testing.T, id, level int) uint64 {
	t.Helper()
	inverse := func(odd uint64) uint64 {
		x := odd
		for range 6 {
			x *= 2 - odd*x
		}
		return x
	}
	z := uint64(1) << (2 * level)
	z = z ^ z>>31 ^ z>>62
	z *= inverse(0x94d049bb133111eb)
	z = z ^ z>>27 ^ z>>54
	z *= inverse(0xbf58476d1ce4e5b9)
	z = z ^ z>>30 ^ z>>60
	z -= 0x9e3779b97f4a7c15
	if got, e := rand.New(z).Level(30); got != level || e != api.OK {
		t.Fatalf("Level of %d: %d, %d: want %d", z, got, e, level)
	}
	return z - uint64(id)
}

// P11.6: every number of levels may be, and goes down again as rows go; the seed tells it.
func TestLevels(t *testing.T) {
	for level := range 31 {
		for _, links := range nums(1, 16) {
			seed := seedOf(t, 17, level)
			x := built(t, []api.Row{row(17, 3)}, 1, links, seed)
			if x.Levels() != level+1 {
				t.Errorf("P11.6: %d levels: want %d", x.Levels(), level+1)
			}
			searchIs(t, x, []api.Row{row(17, 3)}, nums(5), 1, 1)
			rows := []api.Row{row(17, 3)}
			for i := range 60 {
				rows = append(rows, row(100+i, i))
				putIs(t, x, rows[i+1], true, api.OK)
				if x.Levels() < level+1 {
					t.Errorf("P11.6: %d levels: want %d at least", x.Levels(), level+1)
				}
			}
			hasRows(t, x, links, rows)
			for budget := range 63 {
				searchIs(t, x, rows, nums(30), 3, budget)
			}
			deleteIs(t, x, 17, true)
			below := built(t, rows[1:], 1, links, seed)
			if x.Levels() != below.Levels() {
				t.Errorf("P11.6: %d levels are left: want %d", x.Levels(), below.Levels())
			}
			hasRows(t, x, links, rows[1:])
			searchIs(t, x, rows[1:], nums(30), 3, 60)
		}
	}
	counts := map[int]int{}
	for seed := range uint64(300) {
		counts[built(t, many(20), 1, 2, seed).Levels()]++
	}
	if len(counts) < 3 {
		t.Errorf("P11.6: the seed tells the levels: %v", counts)
	}
}

// R3: a nil tree.
func TestNil(t *testing.T) {
	var x *Tree
	for _, r := range []api.Row{{}, row(1, 1), row(0, 1), row(1), row(1, top+1)} {
		putIs(t, x, r, false, api.ErrNil)
	}
	for _, id := range nums(-1, 0, 1) {
		if was, e := x.Delete(id); was || e != api.ErrNil {
			t.Errorf("R3: Delete(%d): %v, %d", id, was, e)
		}
		knownIs(t, x, id, nil, api.ErrNil)
	}
	if x.Len() != 0 || len(x.Rows()) != 0 || x.Levels() != 0 {
		t.Errorf("R3: %d rows, %v, %d levels", x.Len(), x.Rows(), x.Levels())
	}
	for _, q := range [][]int{nil, {0}, {top + 1}, filled(65, 0)} {
		for _, n := range nums(-1, 1, api.MaxBudget+1) {
			searchFails(t, x, q, n, n, api.ErrNil)
		}
	}
}

// P11.4 at every budget.
func TestBudgets(t *testing.T) {
	s := source(7)
	for _, links := range nums(1, 2, 5, 16) {
		rows := s.rows(40, 2)
		x := built(t, rows, 2, links, 7)
		for range 5 {
			q := s.vector(2)
			for budget := range 45 {
				for _, k := range nums(1, 3, 39, 40, 41, 64) {
					searchIs(t, x, rows, q, k, budget)
				}
			}
		}
	}
}

// P11.1: links and seed change no answer that is certain.
func TestLinksAndSeed(t *testing.T) {
	var rows []api.Row
	for i := range 512 {
		rows = append(rows, row(i+1, i%32*10, i/32*10))
	}
	for links := 1; links <= 16; links += 3 {
		for _, seed := range []uint64{0, math.MaxUint64, uint64(links) * 99} {
			x := built(t, rows, 2, links, seed)
			a, certain := searchIs(t, x, rows, nums(101, 52), 3, 512)
			if want := []api.Hit{hit(171, 5), hit(203, 65), hit(172, 85)}; !certain || !slices.Equal(a.Hits, want) {
				t.Errorf("P11.4: with %d, %d: %+v", links, seed, a)
			}
		}
	}
}

// found tells of how many of a hundred questions a search that may look at budget rows has found the nearest one.
func found(t *testing.T, x *Tree, rows []api.Row, budget int, question func() []int) int {
	t.Helper()
	count := 0
	for range 100 {
		q := question()
		a, _ := searchIs(t, x, rows, q, 1, budget)
		if a.Hits[0].Dist == plainHits(rows, q)[0].Dist {
			count++
		}
	}
	return count
}

// A search goes from row to row towards the question: a small budget is mostly enough, as well after many changes.
func TestFromRowToRow(t *testing.T) {
	s := source(23)
	anywhere := func() []int { return nums(s.below(1000), s.below(1000)) }
	// Eight groups that are far apart.
	grouped := func() []int { g := s.below(8); return nums(g%3*100000+s.below(50), g/3*100000+s.below(50)) }
	for _, question := range []func() []int{anywhere, grouped} {
		for _, links := range nums(2, 4, 16) {
			var rows []api.Row
			for i := range 500 {
				rows = append(rows, row(i+1, question()...))
			}
			x := built(t, rows, 2, links, 7)
			if n := found(t, x, rows, 120, question); n < 90 {
				t.Errorf("with %d, of 100 nearest ones %d are found", links, n)
			}
			for i := range 250 {
				deleteIs(t, x, rows[i].Id, true)
				rows[250+i] = row(rows[250+i].Id, question()...)
				putIs(t, x, rows[250+i], false, api.OK)
			}
			if n := found(t, x, rows[250:], 100, question); n < 80 {
				t.Errorf("with %d, after changes, of 100 nearest ones %d are found", links, n)
			}
		}
	}
}

// Rows that nobody knows are seen all the same, if the budget allows it.
func TestSameVectors(t *testing.T) {
	var rows []api.Row
	for i := range 200 {
		rows = append(rows, row(1+i*37%200, 4, 4))
	}
	for _, links := range nums(1, 7, 16) {
		x := built(t, rows[:100], 2, links, 7)
		for _, r := range rows[100:] {
			putIs(t, x, r, true, api.OK)
		}
		hasRows(t, x, links, rows)
		for _, budget := range nums(0, 1, 63, 64, 199, 200) {
			searchIs(t, x, rows, nums(4, 4), 64, budget)
			searchIs(t, x, rows, nums(9, 9), 5, budget)
		}
		for _, r := range rows[:150] {
			deleteIs(t, x, r.Id, true)
		}
		hasRows(t, x, links, rows[150:])
		searchIs(t, x, rows[150:], nums(0, 0), 64, 512)
	}
}

// T1: distances of 70 bits, in all dimensions.
func TestGreatestDistances(t *testing.T) {
	for dim := 1; dim <= 64; dim++ {
		rows := []api.Row{row(1, filled(dim, top)...), row(2, filled(dim, -top)...), row(3, filled(dim, 0)...)}
		for _, links := range nums(1, 16) {
			x := built(t, rows, dim, links, 7)
			hasRows(t, x, links, rows)
			for budget := range 4 {
				for k := 1; k <= 3; k++ {
					searchIs(t, x, rows, filled(dim, top), k, budget)
				}
			}
		}
	}
}

// T5: what a tree has hangs on what was put and deleted, whatever it was built of; T2, T4: its answers are as they should be all the time.
func TestChanges(t *testing.T) {
	s := source(11)
	for round := range 30 {
		dim, links := 1+s.below(4), nums(1, 2, 3, 8, 16)[s.below(5)]
		if round%10 == 9 {
			dim = 64
		}
		start := s.rows(s.below(60), dim)
		x := built(t, start, dim, links, uint64(round))
		kept := map[int][]int{}
		for _, r := range start {
			kept[r.Id] = r.V
		}
		some := func() int {
			ids := slices.Sorted(maps.Keys(kept))
			if len(ids) == 0 || s.below(3) == 0 {
				return 1 + s.below(100)
			}
			return ids[s.below(len(ids))]
		}
		// Some rounds grow, others shrink, so that trees are emptied and filled again.
		puts := 2 + s.below(7)
		for range 80 {
			id := some()
			_, had := kept[id]
			if s.below(10) < puts {
				v := s.vector(dim)
				putIs(t, x, row(id, v...), !had, api.OK)
				kept[id] = v
			} else {
				deleteIs(t, x, id, had)
				delete(kept, id)
			}
			var rows []api.Row
			for _, id := range slices.Sorted(maps.Keys(kept)) {
				rows = append(rows, row(id, kept[id]...))
			}
			hasRows(t, x, links, rows)
			q, k := s.vector(dim), 1+s.below(12)
			searchIs(t, x, rows, q, k, s.below(len(rows)+3))
			full, _ := searchIs(t, x, rows, q, k, api.MaxBudget)
			fresh := built(t, rows, dim, 5, uint64(round))
			other, _ := searchIs(t, fresh, rows, q, k, len(rows))
			if !slices.Equal(full.Hits, other.Hits) || x.Levels() != fresh.Levels() {
				t.Fatalf("P11.9: %v, %d levels: a tree that is built of the same rows: %v, %d", full.Hits, x.Levels(), other.Hits, fresh.Levels())
			}
		}
	}
}

// A tree that is filled row by row, in order, to its limit, and emptied from either end.
func TestFillAndEmpty(t *testing.T) {
	for _, start := range nums(0, 1, 256) {
		rows := many(512)
		x := built(t, rows[:start], 1, 4, 7)
		for i, r := range rows[start:] {
			putIs(t, x, r, true, api.OK)
			if i%37 == 0 {
				hasRows(t, x, 4, rows[:start+i+1])
				searchIs(t, x, rows[:start+i+1], nums(i/2), 4, 1+i/3)
			}
		}
		hasRows(t, x, 4, rows)
		searchIs(t, x, rows, nums(300), 2, 512)
		for len(rows) > 0 {
			if len(rows)%2 == 0 {
				deleteIs(t, x, rows[0].Id, true)
				rows = rows[1:]
			} else {
				deleteIs(t, x, rows[len(rows)-1].Id, true)
				rows = rows[:len(rows)-1]
			}
			if len(rows)%41 == 0 {
				hasRows(t, x, 4, rows)
				searchIs(t, x, rows, nums(256), 3, len(rows)/2)
				searchIs(t, x, rows, nums(256), 3, len(rows))
			}
		}
		hasRows(t, x, 4, nil)
	}
}

// R1: calls that fail, and those that only ask, change nothing. R2: the same calls have the same answers.
func TestSameCalls(t *testing.T) {
	s := source(3)
	rows := s.rows(150, 2)
	told := func(seed uint64, between func(x *Tree)) (answers []api.Answer, known [][]int) {
		x := built(t, rows, 2, 3, seed)
		for i := range 30 {
			putIs(t, x, row(6000+i, i, -i), true, api.OK)
			putIs(t, x, row(rows[i].Id, i, i), false, api.OK)
			between(x)
			deleteIs(t, x, rows[50+i].Id, true)
		}
		for budget := range 40 {
			a, _ := x.Search(nums(1, 1), 5, budget)
			answers = append(answers, a)
		}
		for _, r := range x.Rows() {
			ids, _ := x.Known(r.Id)
			known = append(known, ids)
		}
		return answers, known
	}
	answers, known := told(1, func(x *Tree) {})
	if others, _ := told(2, func(x *Tree) {}); reflect.DeepEqual(others, answers) {
		t.Errorf("P11.1: another seed changes nothing: %v", answers)
	}
	for range 5 {
		again, still := told(1, func(x *Tree) {
			putIs(t, x, row(0, 1, 1), false, api.ErrFlatId)
			putIs(t, x, row(rows[1].Id, 1), false, api.ErrVecDim)
			putIs(t, x, row(rows[2].Id, 1, top+1), false, api.ErrVecCoord)
			deleteIs(t, x, 7000, false)
			knownIs(t, x, 7000, nil, api.ErrFlatId)
			searchFails(t, x, nums(1, 1), 65, 3, api.ErrArg)
			hasRows(t, x, 3, x.Rows())
			x.Search(nums(5, 5), 3, 15)
		})
		if !reflect.DeepEqual(again, answers) || !reflect.DeepEqual(still, known) {
			t.Errorf("R1: %+v, then %+v; %v, then %v", answers, again, known, still)
		}
	}
}

// R2: what is handed in is not written into, nor its spare room, and is not kept.
func TestNothingIsWrittenOrKept(t *testing.T) {
	room := func() []api.Row { return append(four(), row(99, 8, 8), row(98, 9, 9)) }
	rows, q, v := room(), nums(3, 4, 77), nums(1, 1, 55)
	slices.Reverse(rows[:4])
	x := built(t, rows[:4], 2, 1, 7)
	putIs(t, x, api.Row{Id: 6, V: v[:2]}, true, api.OK)
	for budget := range 7 {
		x.Search(q[:2], 2, budget)
	}
	slices.Reverse(rows[:4])
	if !reflect.DeepEqual(rows, room()) || !slices.Equal(q, nums(3, 4, 77)) || !slices.Equal(v, nums(1, 1, 55)) {
		t.Errorf("R2: left behind: %v, %v, %v", rows, q, v)
	}
	for i := range rows {
		rows[i].Id, rows[i].V[0] = 55, 1000
	}
	v[0] = 1000
	hasRows(t, x, 1, append(four(), row(6, 1, 1)))
	searchIs(t, x, append(four(), row(6, 1, 1)), nums(3, 4), 2, 5)
}

// spoil writes a number of its own into each list, and into its spare room, and tells whether all of them keep it.
func spoil(lists [][]int) bool {
	for i, l := range lists {
		for j := range l[:cap(l)] {
			l[:cap(l)][j] = -100 - i
		}
	}
	for i, l := range lists {
		for _, n := range l {
			if n != -100-i {
				return false
			}
		}
	}
	return true
}

// R2: what comes out is new memory, of which no two lists share any.
func TestAnswersAreNew(t *testing.T) {
	rows := append(four(), row(5, 1, 1), row(6, 2, 2), row(7, 40, 30))
	for _, links := range nums(1, 2, 16) {
		x := built(t, rows, 2, links, 7)
		for budget := range 8 {
			was, _ := x.Search(nums(1, 0), 2, budget)
			a, _ := x.Search(nums(1, 0), 2, budget)
			lists := [][]int{a.Seen}
			for _, r := range a.Rest {
				lists = append(lists, r.Ids)
			}
			for i := range a.Hits {
				a.Hits[i] = hit(77, 77)
			}
			if !spoil(lists) {
				t.Fatalf("R2: two lists of an answer share memory")
			}
			if again, _ := x.Search(nums(1, 0), 2, budget); !reflect.DeepEqual(again, was) {
				t.Fatalf("R2: asked again: %+v: want %+v", again, was)
			}
		}
		var lists, known [][]int
		for _, r := range x.Rows() {
			ids, _ := x.Known(r.Id)
			known = append(known, slices.Clone(ids))
			lists = append(lists, ids, r.V)
		}
		if !spoil(lists) {
			t.Fatalf("R2: two lists share memory")
		}
		hasRows(t, x, links, rows)
		for i, r := range rising(rows) {
			knownIs(t, x, r.Id, known[i], api.OK)
		}
		searchIs(t, x, rows, nums(1, 0), 2, 7)
	}
}

// R2: trees know nothing of one another, and an answer nothing of later calls.
func TestTreesAreApart(t *testing.T) {
	rows := four()
	x, y := built(t, rows, 2, 2, 7), built(t, rows, 2, 2, 7)
	was, _ := x.Search(nums(0, 0), 1, 1)
	kept, _ := x.Search(nums(0, 0), 1, 1)
	all := x.Rows()
	before, _ := x.Known(1)
	ids, _ := x.Known(1)
	for _, r := range rows {
		putIs(t, x, row(r.Id, 500, 500), false, api.OK)
	}
	deleteIs(t, x, 4, true)
	hasRows(t, y, 2, four())
	knownIs(t, y, 1, before, api.OK)
	searchIs(t, y, four(), nums(0, 0), 1, 4)
	if !reflect.DeepEqual(kept, was) || !reflect.DeepEqual(all, four()) || !slices.Equal(ids, before) {
		t.Errorf("R2: answers have changed: %+v, %v, %v", kept, all, ids)
	}
}
