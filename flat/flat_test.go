package flat

import (
	"cmp"
	"math"
	"math/big"
	"reflect"
	"slices"
	"testing"

	"theodolite/api"
)

const top = api.MaxCoord

func lo(n uint64) api.Wide { return api.Wide{Lo: n} }

func list(v ...int) []int { return v }

func row(id int, v ...int) api.Row { return api.Row{Id: id, V: v} }

func hit(id int, far uint64) api.Hit { return api.Hit{Id: id, Dist: lo(far)} }

// filled is a vector of n coordinates, all x.
func filled(n, x int) []int {
	v := make([]int, n)
	for i := range v {
		v[i] = x
	}
	return v
}

// many is n rows of one coordinate, with the ids 1 to n.
func many(n int) []api.Row {
	var rows []api.Row
	for i := range n {
		rows = append(rows, row(i+1, i))
	}
	return rows
}

// four are the rows of the chapter's table.
func four() []api.Row {
	return []api.Row{row(1, 0, 0), row(2, 3, 4), row(3, 0, 1), row(4, 3, 4)}
}

// plainHits says the hits of rows for q anew, by numbers that have no end, in order.
func plainHits(rows []api.Row, q []int) []api.Hit {
	type far struct {
		id   int
		dist *big.Int
	}
	var all []far
	for _, r := range rows {
		sum := new(big.Int)
		for i := range q {
			d := big.NewInt(int64(q[i]) - int64(r.V[i]))
			sum.Add(sum, d.Mul(d, d))
		}
		all = append(all, far{r.Id, sum})
	}
	slices.SortFunc(all, func(a, b far) int { return cmp.Or(a.dist.Cmp(b.dist), a.id-b.id) })
	var hits []api.Hit
	for _, x := range all {
		low := new(big.Int).And(x.dist, new(big.Int).SetUint64(math.MaxUint64))
		hits = append(hits, api.Hit{Id: x.id, Dist: api.Wide{Hi: new(big.Int).Rsh(x.dist, 64).Uint64(), Lo: low.Uint64()}})
	}
	return hits
}

// first is the beginning of a list: k of it, or all.
func first[T any](k int, l []T) []T { return l[:min(k, len(l))] }

// source gives the same numbers in every run.
type source uint64

func (s *source) below(n int) int {
	*s ^= *s << 13
	*s ^= *s >> 7
	*s ^= *s << 17
	return int(uint64(*s) % uint64(n))
}

// vector is one of dimension dim: its coordinates are so near to nought that many rows are as far as one another, or anywhere, or at the ends.
func (s *source) vector(dim int) []int {
	v := make([]int, dim)
	how := s.below(4)
	for i := range v {
		switch how {
		case 0:
			v[i] = s.below(2*top+1) - top
		case 1:
			v[i] = list(-top, top)[s.below(2)]
		default:
			v[i] = s.below(5) - 2
		}
	}
	return v
}

// rows are n of dimension dim, whose ids neither rise nor fall: 5021 is a prime, so that none stands twice.
func (s *source) rows(n, dim int) []api.Row {
	var rows []api.Row
	step := 1 + s.below(5020)
	for i := range n {
		rows = append(rows, row((i+1)*step%5021, s.vector(dim)...))
	}
	return rows
}

// shuffled is another order of the rows.
func (s *source) shuffled(rows []api.Row) []api.Row {
	rows = slices.Clone(rows)
	for i := len(rows) - 1; i > 0; i-- {
		j := s.below(i + 1)
		rows[i], rows[j] = rows[j], rows[i]
	}
	return rows
}

func checkIs(t *testing.T, rows []api.Row, dim int, e api.Errno) {
	t.Helper()
	if got := Check(rows, dim); got != e {
		t.Errorf("P5.1: Check(%v, %d): %d: want %d", first(3, rows), dim, got, e)
	}
}

func topIs(t *testing.T, rows []api.Row, q []int, k int, want []api.Hit, e api.Errno) {
	t.Helper()
	if l, got := TopK(rows, q, k); !slices.Equal(l, want) || got != e {
		t.Errorf("P5.2: TopK of %d rows, %v, %d: %v, %d: want %v, %d", len(rows), q, k, l, got, want, e)
	}
}

func rangeIs(t *testing.T, rows []api.Row, q []int, radius api.Wide, want []api.Hit, e api.Errno) {
	t.Helper()
	if l, got := Range(rows, q, radius); !slices.Equal(l, want) || got != e {
		t.Errorf("P5.3: Range of %d rows, %v, %v: %v, %d: want %v, %d", len(rows), q, radius, l, got, want, e)
	}
}

// searchIs asks whether a search answers as DOC.md says: soundly, within the budget, and using it up. It tells the answer.
func searchIs(t *testing.T, rows []api.Row, q []int, k, budget int) api.Answer {
	t.Helper()
	a, e := Search(rows, q, k, budget)
	if e != api.OK {
		t.Fatalf("P5.4: Search(%v, %d, %d): %d", q, k, budget, e)
	}
	if len(a.Seen) != min(budget, len(rows)) {
		t.Errorf("P5.4: Search(%v, %d, %d) of %d rows has seen %d", q, k, budget, len(rows), len(a.Seen))
	}
	lists := [][]int{a.Seen}
	for _, r := range a.Rest {
		// A region that is not all of space would be known by looking at more rows than may be.
		if r.Shape != api.ShapeAll || len(r.Lo) != 0 || len(r.Hi) != 0 || r.Radius != lo(0) || len(r.Ids) == 0 {
			t.Errorf("P5.4: a region %+v", r)
		}
		lists = append(lists, r.Ids)
	}
	for _, ids := range lists {
		if !slices.IsSorted(ids) {
			t.Errorf("P5.4: ids do not rise: %v", ids)
		}
	}
	together, ids := slices.Concat(lists...), []int{}
	for _, r := range rows {
		ids = append(ids, r.Id)
	}
	slices.Sort(together)
	slices.Sort(ids)
	if !slices.Equal(together, ids) {
		t.Errorf("P5.4: Seen and Rest have %v: want each of %v once", together, ids)
	}
	var seen []api.Row
	for _, r := range rows {
		if slices.Contains(a.Seen, r.Id) {
			seen = append(seen, r)
		}
	}
	if want := first(k, plainHits(seen, q)); !slices.Equal(a.Hits, want) {
		t.Errorf("P5.4: Search(%v, %d, %d): %v: want %v", q, k, budget, a.Hits, want)
	}
	return a
}

func searchFails(t *testing.T, rows []api.Row, q []int, k, budget int, e api.Errno) {
	t.Helper()
	if a, got := Search(rows, q, k, budget); !reflect.DeepEqual(a, api.Answer{}) || got != e {
		t.Errorf("P5.4: Search of %d rows, %v, %d, %d: %+v, %d: want %d", len(rows), q, k, budget, a, got, e)
	}
}

// The chapter's table, line by line.
func TestExamples(t *testing.T) {
	topIs(t, four(), list(0, 0), 3, []api.Hit{hit(1, 0), hit(3, 1), hit(2, 25)}, api.OK)
	topIs(t, four(), list(3, 4), 2, []api.Hit{hit(2, 0), hit(4, 0)}, api.OK)
	topIs(t, four(), list(3, 4), 0, nil, api.ErrArg)
	topIs(t, four(), list(3, 4), 65, nil, api.ErrArg)
	topIs(t, four(), list(3), 2, nil, api.ErrVecDim)
	rangeIs(t, four(), list(0, 0), lo(1), []api.Hit{hit(1, 0), hit(3, 1)}, api.OK)
	a := searchIs(t, four(), list(0, 0), 1, 4)
	if !slices.Equal(a.Hits, []api.Hit{hit(1, 0)}) || len(a.Rest) != 0 {
		t.Errorf("P5.4: budget 4: %+v", a)
	}
	a = searchIs(t, four(), list(0, 0), 1, 0)
	if len(a.Hits) != 0 || len(a.Seen) != 0 || len(a.Rest) != 1 || !slices.Equal(a.Rest[0].Ids, list(1, 2, 3, 4)) {
		t.Errorf("P5.4: budget 0: %+v", a)
	}
	checkIs(t, []api.Row{row(1, 0), row(1, 1)}, 1, api.ErrFlatId)
	checkIs(t, many(513), 1, api.ErrLong)
}

func TestCheck(t *testing.T) {
	checkIs(t, many(512), 1, api.OK)
	checkIs(t, []api.Row{row(1, top), row(api.MaxId, -top)}, 1, api.OK)
	checkIs(t, []api.Row{row(2, filled(64, top)...), row(1, filled(64, -top)...)}, 64, api.OK)
	for dim := 1; dim <= 64; dim++ {
		for _, none := range [][]api.Row{nil, {}} {
			checkIs(t, none, dim, api.OK)
		}
		checkIs(t, []api.Row{row(7, filled(dim, 1)...)}, dim, api.OK)
	}
	spoilt := many(513)
	spoilt[0] = api.Row{}
	for _, dim := range list(math.MinInt, -1, 0, 65, math.MaxInt) {
		for _, rows := range [][]api.Row{nil, {}, four(), spoilt, {row(0)}, {row(1, filled(65, 0)...)}} {
			checkIs(t, rows, dim, api.ErrVecDim)
		}
	}
	checkIs(t, spoilt, 1, api.ErrLong)
}

// The errors of rows of one coordinate: of one row the id comes first, of two rows the first one.
var wrongRows = []struct {
	rows []api.Row
	e    api.Errno
}{
	{many(513), api.ErrLong},
	{make([]api.Row, 513), api.ErrLong},
	{[]api.Row{row(0, 1)}, api.ErrFlatId},
	{[]api.Row{row(-1, 1)}, api.ErrFlatId},
	{[]api.Row{row(math.MinInt, 1)}, api.ErrFlatId},
	{[]api.Row{row(api.MaxId+1, 1)}, api.ErrFlatId},
	{[]api.Row{row(math.MaxInt, 1)}, api.ErrFlatId},
	{[]api.Row{row(1, 1), row(1, 1)}, api.ErrFlatId},
	{[]api.Row{row(1, 1), row(2, 1), row(1, 5)}, api.ErrFlatId},
	{append(many(511), row(1, 5)), api.ErrFlatId},
	{[]api.Row{row(1)}, api.ErrVecDim},
	{[]api.Row{row(1, 1, 2)}, api.ErrVecDim},
	{[]api.Row{row(1, 1), row(2, top+1)}, api.ErrVecCoord},
	{append(many(511), row(600, -top-1)), api.ErrVecCoord},
	{[]api.Row{row(0, top+1)}, api.ErrFlatId},
	{[]api.Row{row(0)}, api.ErrFlatId},
	{[]api.Row{row(1, 1), row(1)}, api.ErrFlatId},
	{[]api.Row{row(1, top+1), row(1, 1)}, api.ErrVecCoord},
	{[]api.Row{row(1), row(0, 1)}, api.ErrVecDim},
	{[]api.Row{row(1, 1), row(2, math.MinInt), row(3)}, api.ErrVecCoord},
}

// wrongQuestions have an error of their own.
var wrongQuestions = []struct {
	q []int
	e api.Errno
}{
	{nil, api.ErrVecDim},
	{list(), api.ErrVecDim},
	{filled(65, 0), api.ErrVecDim},
	{filled(65, math.MaxInt), api.ErrVecDim},
	{list(top + 1), api.ErrVecCoord},
	{list(-top - 1), api.ErrVecCoord},
	{list(0, math.MinInt), api.ErrVecCoord},
}

// The question's error comes first, then the rows', then k's, then the budget's.
func TestErrorsInOrder(t *testing.T) {
	wrong := list(math.MinInt, -1, 0, 65, math.MaxInt)
	fail := func(rows []api.Row, q []int, k int, e api.Errno) {
		t.Helper()
		topIs(t, rows, q, k, nil, e)
		for _, budget := range list(0, 3, -1, math.MaxInt) {
			searchFails(t, rows, q, k, budget, e)
		}
	}
	for _, x := range wrongQuestions {
		for _, rows := range [][]api.Row{nil, many(3), many(513), {row(0, 1)}, {row(1, top+1)}} {
			rangeIs(t, rows, x.q, lo(9), nil, x.e)
			for _, k := range append(wrong, 1) {
				fail(rows, x.q, k, x.e)
			}
		}
	}
	for _, x := range wrongRows {
		checkIs(t, x.rows, 1, x.e)
		rangeIs(t, x.rows, list(5), lo(9), nil, x.e)
		for _, k := range append(wrong, 1) {
			fail(x.rows, list(5), k, x.e)
		}
	}
	for _, k := range wrong {
		fail(nil, list(5), k, api.ErrArg)
		fail(many(3), list(5), k, api.ErrArg)
	}
	// Rows of another dimension than the question's.
	rangeIs(t, four(), list(3), lo(9), nil, api.ErrVecDim)
	fail(four(), list(1, 2, 3), 2, api.ErrVecDim)
	for _, budget := range list(math.MinInt, -1, api.MaxBudget+1, math.MaxInt) {
		searchFails(t, four(), list(0, 0), 1, budget, api.ErrArg)
		searchFails(t, nil, list(0, 0), 64, budget, api.ErrArg)
	}
}

func TestEdges(t *testing.T) {
	for _, none := range [][]api.Row{nil, {}} {
		topIs(t, none, list(1, 2), 64, nil, api.OK)
		rangeIs(t, none, list(1, 2), api.Wide{Hi: math.MaxUint64, Lo: math.MaxUint64}, nil, api.OK)
		for _, budget := range list(0, 1, api.MaxBudget) {
			searchIs(t, none, list(1, 2), 64, budget)
		}
	}
	// The greatest distance that there is, beyond 64 bits.
	far := api.Wide{Hi: 63, Lo: 18446742974197924096}
	ends := []api.Row{row(api.MaxId, filled(64, top)...), row(1, filled(64, -top)...)}
	topIs(t, ends, filled(64, top), 2, []api.Hit{{Id: api.MaxId}, {Id: 1, Dist: far}}, api.OK)
	rangeIs(t, ends, filled(64, top), far, []api.Hit{{Id: api.MaxId}, {Id: 1, Dist: far}}, api.OK)
	rangeIs(t, ends, filled(64, top), api.Wide{Hi: far.Hi, Lo: far.Lo - 1}, []api.Hit{{Id: api.MaxId}}, api.OK)
	rangeIs(t, ends, filled(64, 0), lo(5), nil, api.OK)
	rangeIs(t, four(), list(3, 4), lo(0), []api.Hit{hit(2, 0), hit(4, 0)}, api.OK)
	// All of 512 rows are told, more than a heap has room for.
	if l, e := Range(many(512), list(511), lo(511*511)); e != api.OK || len(l) != 512 || l[0] != hit(512, 0) || l[511] != hit(1, 511*511) {
		t.Errorf("P5.3: Range of 512 rows: %d hits, %d", len(l), e)
	}
	if l, e := TopK(many(512), list(0), 64); e != api.OK || len(l) != 64 || l[63] != hit(64, 63*63) {
		t.Errorf("P5.2: TopK of 512 rows: %v, %d", l, e)
	}
	for _, budget := range list(0, 1, 511, 512, 513, api.MaxBudget) {
		searchIs(t, many(512), list(200), 64, budget)
	}
}

func TestAgainstPlain(t *testing.T) {
	s := source(88172645463325252)
	for _, dim := range list(1, 2, 3, 17, 64) {
		for _, n := range list(0, 1, 2, 5, 63, 64, 65, 130) {
			rows, q := s.rows(n, dim), s.vector(dim)
			plain := plainHits(rows, q)
			for _, k := range list(1, 2, 5, 63, 64) {
				topIs(t, rows, q, k, first(k, plain), api.OK)
				for _, budget := range list(0, 1, n/2, max(n-1, 0), n, n+1) {
					searchIs(t, rows, q, k, budget)
				}
			}
			for i, x := range plain {
				for i+1 < n && plain[i+1].Dist == x.Dist {
					i++
				}
				rangeIs(t, rows, q, x.Dist, plain[:i+1], api.OK)
			}
		}
	}
}

// P5.5: what follows.
func TestFollows(t *testing.T) {
	s := source(362436069)
	for range 40 {
		dim, n := 1+s.below(4), 2+s.below(100)
		rows, q := s.rows(n, dim), s.vector(dim)
		for k := 1; k < 64; k++ {
			hits, _ := TopK(rows, q, k)
			topIs(t, s.shuffled(rows), q, k, hits, api.OK)
			more, _ := TopK(rows, q, k+1)
			if !slices.Equal(first(k, more), hits) {
				t.Fatalf("P5.5: the first %d are %v, the first %d are %v", k, hits, k+1, more)
			}
			near, _ := Range(rows, q, hits[len(hits)-1].Dist)
			if !slices.Equal(first(k, near), hits) {
				t.Fatalf("P5.5: Range tells %v, TopK %v", near, hits)
			}
			for _, budget := range list(n, n+1, api.MaxBudget) {
				if a := searchIs(t, rows, q, k, budget); !slices.Equal(a.Hits, hits) || len(a.Rest) != 0 {
					t.Fatalf("P5.5: Search with %d for %d rows: %+v: want %v", budget, n, a, hits)
				}
			}
			one, _ := Search(rows, q, k, n/2)
			two, _ := Search(rows, q, k, n/2)
			if !reflect.DeepEqual(one, two) {
				t.Fatalf("P5.4: asked again: %+v, then %+v", one, two)
			}
		}
	}
}

// R2: what is handed in is not written into, nor its spare room.
func TestNothingIsWritten(t *testing.T) {
	room := func() []api.Row { return append(four(), row(99, 8, 8), row(98, 9, 9)) }
	rows, q := room(), list(3, 4, 77)
	for budget := range 5 {
		Search(rows[:4], q[:2], 1, budget)
	}
	Check(rows[:4], 2)
	TopK(rows[:4], q[:2], 2)
	Range(rows[:4], q[:2], lo(25))
	for i := range rows {
		rows[i].V = rows[i].V[:1]
	}
	Range(rows[:4], q[:1], lo(25))
	for i := range rows {
		rows[i].V = rows[i].V[:2]
	}
	if !reflect.DeepEqual(rows, room()) || !slices.Equal(q, list(3, 4, 77)) {
		t.Errorf("R2: left behind: %v, %v", rows, q)
	}
}

// R2: what comes out is new memory.
func TestAnswersAreNew(t *testing.T) {
	rows, q := four(), list(0, 0)
	a, _ := Search(rows, q, 4, 2)
	was, _ := Search(rows, q, 4, 2)
	seen, rest := append(a.Seen, 7), append(a.Rest[0].Ids, 8)
	for _, ids := range [][]int{seen, rest} {
		for i := range ids {
			ids[i] = -1
		}
	}
	for i := range a.Hits {
		a.Hits[i] = hit(77, 77)
	}
	if !reflect.DeepEqual(rows, four()) {
		t.Errorf("R2: the rows are now %v", rows)
	}
	if again, _ := Search(rows, q, 4, 2); !reflect.DeepEqual(again, was) {
		t.Errorf("R2: asked again: %+v: want %+v", again, was)
	}
	rows[0].V[0], rows[1].Id, q[0] = 9, 9, 9
	if !slices.Equal(was.Seen, list(1, 2)) || !slices.Equal(was.Hits, []api.Hit{hit(1, 0), hit(2, 25)}) {
		t.Errorf("R2: an answer hangs on what was handed in: %+v", was)
	}
}
