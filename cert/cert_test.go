package cert

import (
	"cmp"
	"math"
	"math/big"
	"reflect"
	"slices"
	"testing"

	"theodolite/api"
	"theodolite/flat"
	"theodolite/hnsw"
	"theodolite/ivf"
	"theodolite/kdtree"
	"theodolite/vptree"
)

const top = api.MaxCoord

func lo(n uint64) api.Wide { return api.Wide{Lo: n} }

func list(v ...int) []int { return v }

func row(id int, v ...int) api.Row { return api.Row{Id: id, V: v} }

func hit(id int, far uint64) api.Hit { return api.Hit{Id: id, Dist: lo(far)} }

func hits(l ...api.Hit) []api.Hit { return l }

// filled is a vector of n coordinates, all x.
func filled(n, x int) []int { return slices.Repeat(list(x), n) }

func all(ids ...int) api.Region { return api.Region{Shape: api.ShapeAll, Ids: ids} }

func box(low, high []int, ids ...int) api.Region {
	return api.Region{Shape: api.ShapeBox, Lo: low, Hi: high, Ids: ids}
}

func ball(centre []int, radius uint64, ids ...int) api.Region {
	return api.Region{Shape: api.ShapeBall, Lo: centre, Radius: lo(radius), Ids: ids}
}

// many is n rows of one coordinate, with the ids 1 to n.
func many(n int) []api.Row {
	var rows []api.Row
	for i := range n {
		rows = append(rows, row(i+1, i))
	}
	return rows
}

// upTo is the numbers from 1 to n.
func upTo(n int) []int {
	var l []int
	for i := range n {
		l = append(l, i+1)
	}
	return l
}

// three are the rows of the chapter's table.
func three() []api.Row { return []api.Row{row(1, 0), row(2, 5), row(3, 9)} }

// told is the answer of the chapter's table.
func told() api.Answer {
	return api.Answer{Hits: hits(hit(1, 0)), Seen: list(1), Rest: []api.Region{box(list(5), list(9), 2, 3)}}
}

// six are rows of which some are seen in sixTold, and the rest stands in a region of each shape.
func six() []api.Row {
	return []api.Row{row(60, 20, 0), row(10, 0, 0), row(30, 3, 4), row(20, 0, 2), row(50, 0, 21), row(40, 9, 9)}
}

// sixTold is a sound answer for 0 0 and k 2. It is certain but for its last region.
func sixTold() api.Answer {
	return api.Answer{Hits: hits(hit(10, 0), hit(20, 4)), Seen: list(10, 20, 30), Rest: []api.Region{
		box(list(20, -1), list(25, 0), 60),
		ball(list(0, 20), 1, 50),
		all(40),
	}}
}

// copied shares no memory with a.
func copied(a api.Answer) api.Answer {
	b := api.Answer{Hits: slices.Clone(a.Hits), Seen: slices.Clone(a.Seen)}
	for _, r := range a.Rest {
		r.Lo, r.Hi, r.Ids = slices.Clone(r.Lo), slices.Clone(r.Hi), slices.Clone(r.Ids)
		b.Rest = append(b.Rest, r)
	}
	return b
}

func judgedIs(t *testing.T, what string, rows []api.Row, q []int, k int, a api.Answer, sound, certain bool) {
	t.Helper()
	if is, e := Sound(rows, q, k, a); is != sound || e != api.OK {
		t.Errorf("P13.1: %s: Sound: %v, %d: want %v: %v, %v, %d, %+v", what, is, e, sound, rows, q, k, a)
	}
	if is, e := Certain(rows, q, k, a); is != certain || e != api.OK {
		t.Errorf("P13.2: %s: Certain: %v, %d: want %v: %v, %v, %d, %+v", what, is, e, certain, rows, q, k, a)
	}
}

func judgeFails(t *testing.T, rows []api.Row, q []int, k int, a api.Answer, e api.Errno) {
	t.Helper()
	if is, got := Sound(rows, q, k, a); is || got != e {
		t.Errorf("P13.1: Sound of %d rows, %v, %d: %v, %d: want %d", len(rows), q, k, is, got, e)
	}
	if is, got := Certain(rows, q, k, a); is || got != e {
		t.Errorf("P13.2: Certain of %d rows, %v, %d: %v, %d: want %d", len(rows), q, k, is, got, e)
	}
}

// What follows says DOC.md's words anew, by numbers that have no end.

func asBig(a api.Wide) *big.Int {
	n := new(big.Int).SetUint64(a.Hi)
	return n.Lsh(n, 64).Or(n, new(big.Int).SetUint64(a.Lo))
}

func square(n *big.Int) *big.Int { return new(big.Int).Mul(n, n) }

func plainDist(a, b []int) *big.Int {
	sum := new(big.Int)
	for i := range a {
		sum.Add(sum, square(big.NewInt(int64(a[i])-int64(b[i]))))
	}
	return sum
}

// clamped is the vector of a box that is nearest to q.
func clamped(r api.Region, q []int) []int {
	v := slices.Clone(q)
	for i := range v {
		v[i] = max(r.Lo[i], min(r.Hi[i], v[i]))
	}
	return v
}

func plainBound(r api.Region, q []int) *big.Int {
	switch r.Shape {
	case api.ShapeBox:
		return plainDist(clamped(r, q), q)
	case api.ShapeBall:
		s := new(big.Int).Sqrt(plainDist(r.Lo, q))
		t := new(big.Int).Sqrt(asBig(r.Radius))
		if square(t).Cmp(asBig(r.Radius)) != 0 {
			t.Add(t, big.NewInt(1))
		}
		if s.Cmp(t) > 0 {
			return square(s.Sub(s, t))
		}
	}
	return new(big.Int)
}

func plainInside(r api.Region, v []int) bool {
	switch r.Shape {
	case api.ShapeBox:
		return slices.Equal(clamped(r, v), v)
	case api.ShapeBall:
		return plainDist(r.Lo, v).Cmp(asBig(r.Radius)) <= 0
	}
	return true
}

func plainVector(v []int, dim int) bool {
	return len(v) == dim && !slices.ContainsFunc(v, func(x int) bool { return x < -top || x > top })
}

func plainRegion(r api.Region, dim int) bool {
	noRadius := r.Radius == api.Wide{}
	switch r.Shape {
	case api.ShapeAll:
		return len(r.Lo)+len(r.Hi) == 0 && noRadius
	case api.ShapeBox:
		if !noRadius || !plainVector(r.Lo, dim) || !plainVector(r.Hi, dim) {
			return false
		}
		for i := range r.Lo {
			if r.Lo[i] > r.Hi[i] {
				return false
			}
		}
		return true
	case api.ShapeBall:
		return len(r.Hi) == 0 && plainVector(r.Lo, dim)
	}
	return false
}

func plainRises(ids []int) bool {
	for i := range ids {
		if i > 0 && ids[i-1] >= ids[i] {
			return false
		}
	}
	return true
}

func plainFirst(k int, rows []api.Row, q []int) []api.Row {
	sorted := slices.SortedFunc(slices.Values(rows), func(a, b api.Row) int {
		return cmp.Or(plainDist(a.V, q).Cmp(plainDist(b.V, q)), a.Id-b.Id)
	})
	return sorted[:min(k, len(sorted))]
}

func plainSound(rows []api.Row, q []int, k int, a api.Answer) bool {
	vectors := map[int][]int{}
	for _, r := range rows {
		vectors[r.Id] = r.V
	}
	stands := slices.Clone(a.Seen)
	for _, r := range a.Rest {
		stands = append(stands, r.Ids...)
		if len(r.Ids) == 0 || !plainRises(r.Ids) || !plainRegion(r, len(q)) {
			return false
		}
	}
	slices.Sort(stands)
	if !plainRises(a.Seen) || !plainRises(stands) || len(stands) != len(rows) {
		return false
	}
	for _, id := range stands {
		if vectors[id] == nil {
			return false
		}
	}
	for _, r := range a.Rest {
		for _, id := range r.Ids {
			if !plainInside(r, vectors[id]) {
				return false
			}
		}
	}
	var seen []api.Row
	for _, id := range a.Seen {
		seen = append(seen, row(id, vectors[id]...))
	}
	return slices.EqualFunc(a.Hits, plainFirst(k, seen, q), func(h api.Hit, r api.Row) bool {
		return h.Id == r.Id && asBig(h.Dist).Cmp(plainDist(r.V, q)) == 0
	})
}

func plainCertain(rows []api.Row, q []int, k int, a api.Answer) bool {
	if !plainSound(rows, q, k, a) {
		return false
	}
	for _, r := range a.Rest {
		if len(a.Hits) != k || plainBound(r, q).Cmp(asBig(a.Hits[k-1].Dist)) <= 0 {
			return false
		}
	}
	return true
}

// source gives the same numbers in every run.
type source uint64

func (s *source) below(n int) int {
	*s ^= *s << 13
	*s ^= *s >> 7
	*s ^= *s << 17
	return int(uint64(*s) % uint64(n))
}

// vector is one of dimension dim: its coordinates are so near to nought that many rows are the same, or anywhere, or at the ends.
func (s *source) vector(dim int) []int {
	v := make([]int, dim)
	how := s.below(5)
	for i := range v {
		switch how {
		case 0:
			v[i] = s.below(2*top+1) - top
		case 1:
			v[i] = list(-top, top)[s.below(2)]
		case 2:
			v[i] = s.below(200) - 100
		default:
			v[i] = s.below(5) - 2
		}
	}
	return v
}

// rows are n of dimension dim, whose ids neither rise nor fall: 5021 is a prime, so that none stands twice.
func (s *source) rows(n, dim int) []api.Row {
	var rows []api.Row
	step := 1 + s.below(5020)
	for i := range n {
		rows = append(rows, row((i+1)*step%5021, s.vector(dim)...))
	}
	return rows
}

// around is a region of whatever shape, in which the rows lie.
func (s *source) around(rows []api.Row, dim int) api.Region {
	var ids []int
	for _, r := range rows {
		ids = append(ids, r.Id)
	}
	slices.Sort(ids)
	switch s.below(5) {
	case 0:
		return all(ids...)
	case 1, 2:
		centre := s.vector(dim)
		if s.below(2) == 0 {
			centre = slices.Clone(rows[0].V)
		}
		far := new(big.Int)
		for _, r := range rows {
			if d := plainDist(r.V, centre); d.Cmp(far) > 0 {
				far = d
			}
		}
		low := new(big.Int).And(far, new(big.Int).SetUint64(math.MaxUint64))
		radius := api.Wide{Hi: new(big.Int).Rsh(far, 64).Uint64(), Lo: low.Uint64()}
		return api.Region{Shape: api.ShapeBall, Lo: centre, Radius: radius, Ids: ids}
	}
	low, high := slices.Clone(rows[0].V), slices.Clone(rows[0].V)
	for _, r := range rows {
		for i, x := range r.V {
			low[i], high[i] = min(low[i], x), max(high[i], x)
		}
	}
	return box(low, high, ids...)
}

// answer is a sound one: the rows that are nearest to q are likely to be seen, and the rest stands in regions of neighbours.
func (s *source) answer(t *testing.T, rows []api.Row, q []int, k int) api.Answer {
	t.Helper()
	order := plainFirst(len(rows), rows, q)
	if s.below(3) == 0 {
		order = slices.Clone(rows)
	}
	count := s.below(len(rows) + 1)
	seen, rest := order[:count], order[count:]
	first, e := flat.TopK(seen, q, k)
	if e != api.OK {
		t.Fatalf("P5.2: TopK: %d", e)
	}
	a := api.Answer{Hits: first}
	for _, r := range seen {
		a.Seen = append(a.Seen, r.Id)
	}
	slices.Sort(a.Seen)
	for len(rest) > 0 {
		n := 1 + s.below(len(rest))
		a.Rest = append(a.Rest, s.around(rest[:n], len(q)))
		rest = rest[n:]
	}
	return a
}

// turn changes something in the answer, if there is such a thing.
func (s *source) turn(a *api.Answer) {
	switch s.below(4) {
	case 0:
		s.turnHits(a)
	case 1:
		s.turnIds(&a.Seen)
	case 2:
		s.turnRest(a)
	default:
		s.move(a)
	}
}

func (s *source) turnHits(a *api.Answer) {
	if len(a.Hits) == 0 {
		a.Hits = hits(hit(s.below(5), 0))
		return
	}
	i := s.below(len(a.Hits))
	switch s.below(7) {
	case 0:
		a.Hits[i].Dist.Lo++
	case 1:
		a.Hits[i].Dist.Lo--
	case 2:
		a.Hits[i].Dist.Hi++
	case 3:
		a.Hits[i].Id++
	case 4:
		a.Hits = slices.Delete(a.Hits, i, i+1)
	case 5:
		a.Hits = slices.Insert(a.Hits, i, a.Hits[i])
	default:
		j := s.below(len(a.Hits))
		a.Hits[i], a.Hits[j] = a.Hits[j], a.Hits[i]
	}
}

func (s *source) turnIds(ids *[]int) {
	if len(*ids) == 0 {
		*ids = list(s.below(5))
		return
	}
	i := s.below(len(*ids))
	switch s.below(6) {
	case 0:
		*ids = slices.Delete(*ids, i, i+1)
	case 1:
		*ids = slices.Insert(*ids, i, (*ids)[i])
	case 2:
		(*ids)[i] += s.below(3) - 1
	case 3:
		(*ids)[i] = list(math.MinInt, -1, 0, api.MaxId, api.MaxId+1, math.MaxInt)[s.below(6)]
	case 4:
		*ids = append(*ids, 5021)
	default:
		j := s.below(len(*ids))
		(*ids)[i], (*ids)[j] = (*ids)[j], (*ids)[i]
	}
}

func (s *source) turnRest(a *api.Answer) {
	if len(a.Rest) == 0 {
		a.Rest = []api.Region{all()}
		return
	}
	i := s.below(len(a.Rest))
	r := &a.Rest[i]
	switch s.below(9) {
	case 0:
		s.turnIds(&r.Ids)
	case 1:
		a.Rest = slices.Delete(a.Rest, i, i+1)
	case 2:
		a.Rest = append(a.Rest, all())
	case 3:
		a.Rest = append(a.Rest, *r)
	case 4:
		r.Shape = api.Shape(s.below(6) - 1)
	case 5:
		s.turnNumber(r.Lo)
	case 6:
		s.turnNumber(r.Hi)
	case 7:
		r.Radius.Lo += uint64(s.below(3)) - 1
	default:
		if n := len(r.Lo); n > 0 {
			r.Lo = r.Lo[:n-1]
		}
	}
}

func (s *source) turnNumber(v []int) {
	if len(v) > 0 {
		v[s.below(len(v))] += s.below(5) - 2
	}
}

// move takes an id from one place to another, where ids still rise.
func (s *source) move(a *api.Answer) {
	places := []*[]int{&a.Seen}
	for i := range a.Rest {
		places = append(places, &a.Rest[i].Ids)
	}
	from, to := places[s.below(len(places))], places[s.below(len(places))]
	if len(*from) == 0 {
		return
	}
	i := s.below(len(*from))
	id := (*from)[i]
	*from = slices.Delete(*from, i, i+1)
	*to = append(*to, id)
	slices.Sort(*to)
}

// The chapter's table, line by line.
func TestExamples(t *testing.T) {
	for what, x := range map[string]struct {
		turn           func(a *api.Answer)
		sound, certain bool
	}{
		"as it is":                 {func(a *api.Answer) {}, true, true},
		"the box from 0 to 9":      {func(a *api.Answer) { a.Rest[0].Lo[0] = 0 }, true, false},
		"the box from 6 to 9":      {func(a *api.Answer) { a.Rest[0].Lo[0] = 6 }, false, false},
		"without 3 in the box":     {func(a *api.Answer) { a.Rest[0].Ids = list(2) }, false, false},
		"with 1 in it":             {func(a *api.Answer) { a.Rest[0].Ids = list(1, 2, 3) }, false, false},
		"Hits 1 at 1":              {func(a *api.Answer) { a.Hits[0] = hit(1, 1) }, false, false},
		"Hits none":                {func(a *api.Answer) { a.Hits = nil }, false, false},
		"a second one without Ids": {func(a *api.Answer) { a.Rest = append(a.Rest, all()) }, false, false},
	} {
		a := told()
		x.turn(&a)
		judgedIs(t, what, three(), list(0), 1, a, x.sound, x.certain)
	}
}

func TestErrors(t *testing.T) {
	twice := append(three(), row(2, 1))
	for _, x := range []struct {
		rows []api.Row
		q    []int
		k    int
		e    api.Errno
	}{
		{three(), nil, 1, api.ErrVecDim},
		{three(), filled(65, 0), 1, api.ErrVecDim},
		{three(), list(0, 0), 1, api.ErrVecDim},
		{three(), list(top + 1), 1, api.ErrVecCoord},
		{three(), list(-top - 1), 1, api.ErrVecCoord},
		{three(), list(math.MinInt), 1, api.ErrVecCoord},
		{many(513), list(0), 1, api.ErrLong},
		{twice, list(0), 1, api.ErrFlatId},
		{[]api.Row{row(0, 1)}, list(0), 1, api.ErrFlatId},
		{[]api.Row{row(api.MaxId+1, 1)}, list(0), 1, api.ErrFlatId},
		{[]api.Row{row(1)}, list(0), 1, api.ErrVecDim},
		{[]api.Row{row(1, 1, 2)}, list(0), 1, api.ErrVecDim},
		{[]api.Row{row(1, top+1)}, list(0), 1, api.ErrVecCoord},
		{three(), list(0), 0, api.ErrArg},
		{three(), list(0), 65, api.ErrArg},
		{three(), list(0), math.MinInt, api.ErrArg},
		{three(), list(0), math.MaxInt, api.ErrArg},
		{nil, list(0), 0, api.ErrArg},
		// q's errors come ahead of the rows', these ahead of k's; of the rows the first one's.
		{many(513), list(top + 1), 0, api.ErrVecCoord},
		{twice, filled(65, top+1), 0, api.ErrVecDim},
		{many(513), list(0), 0, api.ErrLong},
		{twice, list(0), 65, api.ErrFlatId},
		{[]api.Row{row(1, top+1), row(1, 0)}, list(0), 0, api.ErrVecCoord},
		{[]api.Row{row(1, 0), row(1, top+1)}, list(0), 0, api.ErrFlatId},
	} {
		// They hang on no answer, be it a sound one or none.
		for _, a := range []api.Answer{told(), {}, {Seen: list(7, 7), Rest: []api.Region{{Shape: 9}}}} {
			judgeFails(t, x.rows, x.q, x.k, a, x.e)
		}
	}
}

// Each demand of a sound answer, broken on its own.
func TestSound(t *testing.T) {
	judgedIs(t, "as it is", six(), list(0, 0), 2, sixTold(), true, false)
	for what, turn := range map[string]func(a *api.Answer){
		"a row is nowhere: of Seen":       func(a *api.Answer) { a.Seen = list(10, 20) },
		"a row is nowhere: of Rest":       func(a *api.Answer) { a.Rest = a.Rest[:2] },
		"a row is nowhere: none is there": func(a *api.Answer) { *a = api.Answer{} },
		"twice in Seen":                   func(a *api.Answer) { a.Seen = list(10, 20, 30, 30) },
		"in Seen and in a region":         func(a *api.Answer) { a.Rest[2].Ids = list(30, 40) },
		"in two regions":                  func(a *api.Answer) { a.Rest[2].Ids = list(40, 50) },
		"twice in a region":               func(a *api.Answer) { a.Rest[2].Ids = list(40, 40) },
		"a region twice":                  func(a *api.Answer) { a.Rest = append(a.Rest, all(40)) },
		"one twice, another nowhere":      func(a *api.Answer) { a.Rest[2].Ids = list(50) },
		"another id is seen":              func(a *api.Answer) { a.Seen = list(10, 20, 30, 70) },
		"another id is in a region":       func(a *api.Answer) { a.Rest[2].Ids = list(40, 70) },
		"another id in place of one":      func(a *api.Answer) { a.Rest[2].Ids = list(41) },
		"another id: nought":              func(a *api.Answer) { a.Seen = list(0, 10, 20, 30) },
		"Seen falls":                      func(a *api.Answer) { a.Seen = list(10, 30, 20) },
		"Ids fall": func(a *api.Answer) {
			a.Rest = []api.Region{all(40, 60, 50)}
		},
		"a region without Ids":         func(a *api.Answer) { a.Rest = append(a.Rest, box(list(0, 0), list(0, 0))) },
		"a region of no shape":         func(a *api.Answer) { a.Rest[2].Shape = 0 },
		"a region of another shape":    func(a *api.Answer) { a.Rest[2].Shape = 4 },
		"all, with a field of a box":   func(a *api.Answer) { a.Rest[2].Hi = list(9, 9) },
		"all, with a Radius":           func(a *api.Answer) { a.Rest[2].Radius = lo(1) },
		"a box with a Radius":          func(a *api.Answer) { a.Rest[0].Radius = lo(1) },
		"a box of one coordinate":      func(a *api.Answer) { a.Rest[0].Lo, a.Rest[0].Hi = list(20), list(25) },
		"a box of three coordinates":   func(a *api.Answer) { a.Rest[0].Hi = list(25, 0, 0) },
		"a box upside down":            func(a *api.Answer) { a.Rest[0].Hi = list(25, -2) },
		"a box that reaches too far":   func(a *api.Answer) { a.Rest[0].Hi = list(25, top+1) },
		"a ball with Hi":               func(a *api.Answer) { a.Rest[1].Hi = list(0, 20) },
		"a ball of no centre":          func(a *api.Answer) { a.Rest[1].Lo = nil },
		"a ball whose centre is away":  func(a *api.Answer) { a.Rest[1].Lo = list(0, -top-1) },
		"a row ahead of its box":       func(a *api.Answer) { a.Rest[0].Lo[0] = 21 },
		"a row behind its box":         func(a *api.Answer) { a.Rest[0].Hi[1] = -1 },
		"a row outside of its ball":    func(a *api.Answer) { a.Rest[1].Radius = lo(0) },
		"rows in each other's regions": func(a *api.Answer) { a.Rest[0].Ids, a.Rest[1].Ids = a.Rest[1].Ids, a.Rest[0].Ids },
		"no Hits":                      func(a *api.Answer) { a.Hits = nil },
		"too few Hits":                 func(a *api.Answer) { a.Hits = a.Hits[:1] },
		"too many Hits":                func(a *api.Answer) { a.Hits = append(a.Hits, hit(30, 25)) },
		"Hits in another order":        func(a *api.Answer) { slices.Reverse(a.Hits) },
		"a hit twice":                  func(a *api.Answer) { a.Hits[1] = a.Hits[0] },
		"a farther hit":                func(a *api.Answer) { a.Hits[1] = hit(30, 25) },
		"a hit's other distance":       func(a *api.Answer) { a.Hits[1].Dist.Lo = 5 },
		"a hit's distance, far more":   func(a *api.Answer) { a.Hits[1].Dist.Hi = 1 },
		"a hit's other id":             func(a *api.Answer) { a.Hits[1].Id = 30 },
		"a hit that is not seen":       func(a *api.Answer) { a.Seen, a.Rest[2].Ids = list(10, 30), list(20, 40) },
		"one more is seen, and a hit":  func(a *api.Answer) { a.Seen, a.Hits = append(a.Seen, 40), append(a.Hits, hit(40, 162)) },
	} {
		a := sixTold()
		turn(&a)
		judgedIs(t, what, six(), list(0, 0), 2, a, false, false)
	}
}

// What is not demanded: the order of the regions and of the rows, that regions are small, or apart from one another and from what is seen.
func TestSoundAllTheSame(t *testing.T) {
	for what, turn := range map[string]func(a *api.Answer){
		"regions in another order": func(a *api.Answer) { slices.Reverse(a.Rest) },
		"a greater box":            func(a *api.Answer) { a.Rest[0].Lo, a.Rest[0].Hi = list(-top, -top), list(top, top) },
		"a greater ball":           func(a *api.Answer) { a.Rest[1].Radius = api.Wide{Hi: math.MaxUint64, Lo: math.MaxUint64} },
		"one region for all":       func(a *api.Answer) { a.Rest = []api.Region{all(40, 50, 60)} },
		"lists without elements":   func(a *api.Answer) { a.Rest[2].Lo, a.Rest[2].Hi, a.Rest[1].Hi = list(), list(), list() },
		"nobody is seen, lists": func(a *api.Answer) {
			*a = api.Answer{Hits: hits(), Seen: list(), Rest: []api.Region{all(ids(six())...)}}
		},
		"nobody is seen, without":  func(a *api.Answer) { *a = api.Answer{Rest: []api.Region{all(ids(six())...)}} },
		"two regions of one shape": func(a *api.Answer) { a.Rest[0] = all(60) },
		"only one is seen, one hit": func(a *api.Answer) {
			*a = api.Answer{Hits: hits(hit(40, 162)), Seen: list(40), Rest: []api.Region{all(10, 20, 30, 50, 60)}}
		},
		"a box that is but a vector": func(a *api.Answer) { a.Rest[0].Lo, a.Rest[0].Hi = list(20, 0), list(20, 0) },
	} {
		a := sixTold()
		turn(&a)
		judgedIs(t, what, six(), list(0, 0), 2, a, true, false)
		rows := six()
		slices.Reverse(rows)
		judgedIs(t, what+", rows in another order", rows, list(0, 0), 2, a, true, false)
	}
}

// ids are the rows', rising.
func ids(rows []api.Row) []int {
	var l []int
	for _, r := range rows {
		l = append(l, r.Id)
	}
	slices.Sort(l)
	return l
}

// A region's bound must be above the last hit's distance: the same is not enough, for a lesser id may be there.
func TestBoundsAtTheLastHit(t *testing.T) {
	rows := []api.Row{row(2, 3), row(1, -3), row(3, 4)}
	for _, x := range []struct {
		region  api.Region
		certain bool
	}{
		{box(list(3), list(9), 2, 3), false},
		{box(list(2), list(9), 2, 3), false},
		{ball(list(5), 4, 2, 3), false}, // 5 less 2: 9
		{ball(list(6), 9, 2, 3), false}, // 6 less 3: 9
		{ball(list(6), 10, 2, 3), false},
		{all(2, 3), false},
	} {
		judgedIs(t, "not above", rows, list(0), 1, api.Answer{Hits: hits(hit(1, 9)), Seen: list(1), Rest: []api.Region{x.region}}, true, x.certain)
	}
	rows[0].V = list(4)
	for _, x := range []struct {
		region  api.Region
		certain bool
	}{
		{box(list(4), list(9), 2, 3), true},
		{box(list(3), list(9), 2, 3), false},
		{ball(list(6), 4, 2, 3), true}, // 6 less 2: 16
		{ball(list(6), 5, 2, 3), false},
		{ball(list(4), 0, 2, 3), true},
		{ball(list(4), 1, 2, 3), false},
		{all(2, 3), false},
	} {
		judgedIs(t, "above", rows, list(0), 1, api.Answer{Hits: hits(hit(1, 9)), Seen: list(1), Rest: []api.Region{x.region}}, true, x.certain)
	}
}

// Every region's bound counts, at whatever place it stands, and the last hit's distance, not the first one's.
func TestEveryRegionCounts(t *testing.T) {
	rows := []api.Row{row(1, 0), row(2, 3), row(3, 4), row(4, 4), row(5, 4)}
	near, far := box(list(3), list(5)), box(list(4), list(4))
	for place := range 3 {
		a := api.Answer{Hits: hits(hit(1, 0), hit(2, 9)), Seen: list(1, 2)}
		for i := range 3 {
			r := far
			r.Ids = list(3 + i)
			a.Rest = append(a.Rest, r)
		}
		judgedIs(t, "all are far", rows, list(0), 2, a, true, true)
		a.Rest[place].Lo, a.Rest[place].Hi = near.Lo, near.Hi
		judgedIs(t, "one is near", rows, list(0), 2, a, true, false)
		a.Rest[place] = all(3 + place)
		judgedIs(t, "one is anywhere", rows, list(0), 2, a, true, false)
	}
}

// With a Rest there must be k hits; without one, as many as there are.
func TestFewerHitsThanAsked(t *testing.T) {
	far := api.Answer{Hits: hits(hit(1, 0), hit(2, 25)), Seen: list(1, 2), Rest: []api.Region{box(list(9), list(9), 3)}}
	judgedIs(t, "two of two", three(), list(0), 2, far, true, true)
	judgedIs(t, "two of three", three(), list(0), 3, far, true, false)
	judgedIs(t, "two of 64", three(), list(0), api.MaxK, far, true, false)
	judgedIs(t, "two of one", three(), list(0), 1, far, false, false)
	whole := api.Answer{Hits: hits(hit(1, 0), hit(2, 25), hit(3, 81)), Seen: list(1, 2, 3)}
	judgedIs(t, "three of three", three(), list(0), 3, whole, true, true)
	judgedIs(t, "three of 64", three(), list(0), api.MaxK, whole, true, true)
	whole.Rest = []api.Region{}
	judgedIs(t, "a list without regions", three(), list(0), api.MaxK, whole, true, true)
	none := api.Answer{Rest: []api.Region{box(list(0), list(9), 1, 2, 3)}}
	judgedIs(t, "nobody is seen", three(), list(-9), 1, none, true, false)
}

func TestNoRows(t *testing.T) {
	for _, rows := range [][]api.Row{nil, {}} {
		judgedIs(t, "nothing", rows, list(0), 1, api.Answer{}, true, true)
		judgedIs(t, "nothing, in lists", rows, list(0), api.MaxK, api.Answer{Hits: hits(), Seen: list(), Rest: []api.Region{}}, true, true)
		judgedIs(t, "a hit", rows, list(0), 1, api.Answer{Hits: hits(hit(0, 0))}, false, false)
		judgedIs(t, "one is seen", rows, list(0), 1, api.Answer{Seen: list(1)}, false, false)
		judgedIs(t, "a region", rows, list(0), 1, api.Answer{Rest: []api.Region{all(1)}}, false, false)
		judgedIs(t, "a region without Ids", rows, list(0), 1, api.Answer{Rest: []api.Region{all()}}, false, false)
		judgedIs(t, "an id of nought", rows, list(0), 1, api.Answer{Seen: list(0)}, false, false)
	}
}

// Who has seen all, and tells the first k, is certain.
func TestAllAreSeen(t *testing.T) {
	s := source(362436069)
	for _, n := range list(1, 2, 63, 64, 65, 511, 512) {
		for _, dim := range list(1, 2, 64) {
			rows, q := s.rows(n, dim), s.vector(dim)
			for _, k := range list(1, 2, 63, 64) {
				first, _ := flat.TopK(rows, q, k)
				a := api.Answer{Hits: first, Seen: ids(rows)}
				judgedIs(t, "all", rows, q, k, a, true, true)
				// Taken out of it: of Seen, then of the rows.
				a.Seen = a.Seen[1:]
				judgedIs(t, "all but one", rows, q, k, a, false, false)
				judgedIs(t, "one more", rows[1:], q, k, api.Answer{Hits: first, Seen: ids(rows)}, false, false)
			}
		}
	}
}

// As many rows, coordinates and hits as may be, as far from one another as may be.
func TestGreatest(t *testing.T) {
	var rows []api.Row
	for i := range api.MaxRows {
		v := filled(api.MaxDim, top)
		v[0] -= i
		rows = append(rows, row(api.MaxId-i, v...))
	}
	q := filled(api.MaxDim, -top)
	first, e := flat.TopK(rows, q, api.MaxK)
	if e != api.OK || asBig(first[63].Dist).Cmp(plainDist(rows[448].V, q)) != 0 || first[63].Dist.Hi != 63 {
		t.Fatalf("P5.2: the farthest: %v, %d", first, e)
	}
	low, high := filled(api.MaxDim, top), filled(api.MaxDim, top)
	low[0] -= 447
	rest := ids(rows[:448])
	a := api.Answer{Hits: first, Seen: ids(rows[448:]), Rest: []api.Region{box(low, high, rest...)}}
	judgedIs(t, "the rest in a box", rows, q, api.MaxK, a, true, true)
	a.Rest[0].Lo[0]--
	judgedIs(t, "in a box that is greater by one", rows, q, api.MaxK, a, true, false)
	a.Rest[0].Lo[0] += 2
	judgedIs(t, "in a box that is less by one", rows, q, api.MaxK, a, false, false)
	a.Rest = nil
	for _, r := range rows[:448] {
		a.Rest = append(a.Rest, ball(r.V, 0, r.Id))
	}
	// A ball's bound is a square of whole numbers: of these balls the nearest one's is rounded down to below the last hit's distance.
	judgedIs(t, "each in a ball", rows, q, api.MaxK, a, true, false)
	a.Rest[7].Ids[0] = 1
	judgedIs(t, "each in a ball, one another", rows, q, api.MaxK, a, false, false)
}

// Answers of which some are sound, some certain, and some are neither, against DOC.md's words.
func TestAgainstPlainWords(t *testing.T) {
	s := source(88172645463325252)
	var sound, certain, turned int
	for range 3000 {
		dim := list(1, 1, 2, 3, 64)[s.below(5)]
		rows, q, k := s.rows(1+s.below(12), dim), s.vector(dim), 1+s.below(5)
		a := s.answer(t, rows, q, k)
		if !plainSound(rows, q, k, a) {
			t.Fatalf("the test's own answer is not sound: %v, %v, %d, %+v", rows, q, k, a)
		}
		isCertain := plainCertain(rows, q, k, a)
		judgedIs(t, "a sound one", rows, q, k, a, true, isCertain)
		if isCertain {
			certain++
		}
		for range 8 {
			b := copied(a)
			for range 1 + s.below(2) {
				s.turn(&b)
			}
			isSound := plainSound(rows, q, k, b)
			judgedIs(t, "a turned one", rows, q, k, b, isSound, plainCertain(rows, q, k, b))
			if isSound {
				sound++
			} else {
				turned++
			}
		}
	}
	if sound < 1000 || certain < 500 || turned < 10000 {
		t.Errorf("the test asks too little: %d are sound, %d certain, %d none", sound, certain, turned)
	}
}

// P13.3: of every sound answer, with one row taken out, one told twice, another distance, and rows that it knows nothing of.
func TestSpoilt(t *testing.T) {
	s := source(521288629)
	for range 300 {
		rows, q, k := s.rows(1+s.below(9), 2), s.vector(2), 1+s.below(4)
		a := s.answer(t, rows, q, k)
		for i := range a.Seen {
			without, twice := copied(a), copied(a)
			without.Seen = slices.Delete(without.Seen, i, i+1)
			twice.Seen = slices.Insert(twice.Seen, i, twice.Seen[i])
			judgedIs(t, "one less is seen", rows, q, k, without, false, false)
			judgedIs(t, "one is seen twice", rows, q, k, twice, false, false)
		}
		for i, r := range a.Rest {
			for j, id := range r.Ids {
				without, twice, both := copied(a), copied(a), copied(a)
				without.Rest[i].Ids = slices.Delete(without.Rest[i].Ids, j, j+1)
				twice.Rest = append(twice.Rest, all(id))
				both.Seen = append(both.Seen, id)
				slices.Sort(both.Seen)
				judgedIs(t, "one less in the rest", rows, q, k, without, false, false)
				judgedIs(t, "one twice in the rest", rows, q, k, twice, false, false)
				judgedIs(t, "one in the rest and seen", rows, q, k, both, false, false)
			}
		}
		for i := range a.Hits {
			more, less := copied(a), copied(a)
			more.Hits[i].Dist.Lo++
			less.Hits[i].Dist.Lo--
			judgedIs(t, "farther", rows, q, k, more, false, false)
			judgedIs(t, "nearer", rows, q, k, less, false, false)
		}
		judgedIs(t, "a row more", append(rows[:len(rows):len(rows)], row(5021, q...)), q, k, a, false, false)
		judgedIs(t, "a row less", rows[1:], q, k, a, false, false)
	}
}

// searcher is an index of whatever kind.
type searcher interface {
	Put(row api.Row) (bool, api.Errno)
	Delete(id int) (bool, api.Errno)
	Rows() []api.Row
	Search(q []int, k, budget int) (api.Answer, api.Errno)
}

// indexes are of all kinds, built of these rows.
func indexes(t *testing.T, rows []api.Row, dim int) map[string]searcher {
	t.Helper()
	kd, e := kdtree.Build(rows, dim, 3)
	vp, f := vptree.Build(rows, dim, 3, 7)
	lists, g := ivf.Build(rows, dim, 6, 5, 7)
	graph, h := hnsw.Build(rows, dim, 4, 7)
	if e != api.OK || f != api.OK || g != api.OK || h != api.OK {
		t.Fatalf("P7.1, P8.1, P9.1, P11.1: Build: %d, %d, %d, %d", e, f, g, h)
	}
	return map[string]searcher{"kdtree": kd, "vptree": vp, "ivf": lists, "hnsw": graph}
}

// searchIs asks whether a search's answer is sound, is certain if it stopped ahead of its budget, and has the first k if it is certain.
func searchIs(t *testing.T, what string, rows []api.Row, q []int, k, budget int, a api.Answer, e api.Errno) {
	t.Helper()
	sound, f := Sound(rows, q, k, a)
	certain, g := Certain(rows, q, k, a)
	if e != api.OK || f != api.OK || g != api.OK || !sound {
		t.Fatalf("T2: %s: %d, %d, %d, %v: %+v", what, e, f, g, sound, a)
	}
	if certain != plainCertain(rows, q, k, a) {
		t.Fatalf("P13.2: %s: Certain: %v: %+v", what, certain, a)
	}
	if len(a.Seen) > budget || !certain && len(a.Seen) != min(budget, len(rows)) || !certain && budget >= len(rows) {
		t.Fatalf("T4: %s: %d of %d, certain %v: %+v", what, len(a.Seen), budget, certain, a)
	}
	if first, _ := flat.TopK(rows, q, k); certain && !slices.Equal(a.Hits, first) {
		t.Fatalf("T2: %s: certain of %v: want %v", what, a.Hits, first)
	}
}

// T2: every index answers soundly, whatever was put and deleted.
func TestIndexes(t *testing.T) {
	s := source(2463534242)
	for _, dim := range list(1, 2, 5, 64) {
		start := s.rows(40, dim)
		for what, x := range indexes(t, start, dim) {
			for range 30 {
				switch s.below(3) {
				case 0:
					x.Delete(start[s.below(len(start))].Id)
				case 1:
					x.Put(row(start[s.below(len(start))].Id, s.vector(dim)...))
				default:
					x.Put(row(6000+s.below(10), s.vector(dim)...))
				}
				rows, q, k := x.Rows(), s.vector(dim), 1+s.below(7)
				for _, budget := range list(0, 1, 5, 20, s.below(60), 100, api.MaxBudget) {
					a, e := x.Search(q, k, budget)
					searchIs(t, what, rows, q, k, budget, a, e)
					a, e = flat.Search(rows, q, k, budget)
					searchIs(t, "flat", rows, q, k, budget, a, e)
				}
			}
		}
	}
}

// R1: no answer is too odd, or too great, to be told what it is.
func TestOddAnswers(t *testing.T) {
	long := upTo(200000)
	empty := make([]api.Region, 200000)
	for what, a := range map[string]api.Answer{
		"noughts":                 {},
		"odd ids":                 {Hits: hits(hit(math.MinInt, 0)), Seen: list(math.MinInt, -1, 0, math.MaxInt)},
		"very many are seen":      {Hits: hits(hit(1, 0)), Seen: long},
		"very many hits":          {Hits: make([]api.Hit, 200000), Seen: list(1, 2, 3)},
		"very many in a region":   {Hits: hits(hit(1, 0)), Seen: list(1), Rest: []api.Region{all(long[1:]...)}},
		"very many regions":       {Hits: hits(hit(1, 0), hit(2, 25)), Seen: list(1, 2, 3), Rest: empty},
		"no hits, but regions":    {Seen: list(1), Rest: []api.Region{{Shape: math.MinInt, Ids: list(2)}, {Shape: math.MaxInt, Ids: list(3)}}},
		"a box without corners":   {Hits: hits(hit(1, 0)), Seen: list(1), Rest: []api.Region{box(nil, nil, 2, 3)}},
		"a box with one corner":   {Hits: hits(hit(1, 0)), Seen: list(1), Rest: []api.Region{box(list(5), nil, 2, 3)}},
		"a ball of much":          {Hits: hits(hit(1, 0)), Seen: list(1), Rest: []api.Region{ball(filled(1000, 5), 99, 2, 3)}},
		"a ball beyond all":       {Hits: hits(hit(1, 0)), Seen: list(1), Rest: []api.Region{ball(list(math.MaxInt), math.MaxUint64, 2, 3)}},
		"a box beyond all":        {Hits: hits(hit(1, 0)), Seen: list(1), Rest: []api.Region{box(list(math.MinInt), list(math.MaxInt), 2, 3)}},
		"hits at the end of all":  {Hits: []api.Hit{{Id: 1, Dist: api.Wide{Hi: math.MaxUint64, Lo: math.MaxUint64}}}, Seen: list(1), Rest: []api.Region{all(2, 3)}},
		"a region of noughts":     {Hits: hits(hit(1, 0)), Seen: list(1), Rest: []api.Region{{}}},
		"the rest without a seen": {Hits: hits(hit(1, 0)), Rest: []api.Region{all(1, 2, 3)}},
	} {
		for _, k := range list(1, 2, api.MaxK) {
			judgedIs(t, what, three(), list(0), k, a, false, false)
		}
	}
}

// R2: what is handed in, and its spare room, stays as it is; asked again, the same is answered.
func TestNothingIsWritten(t *testing.T) {
	room := func() ([]api.Row, []int, api.Answer) {
		rows := append(six(), row(99, 8, 8), row(98, 9, 9))
		a := sixTold()
		a.Hits = append(a.Hits, hit(77, 7), hit(78, 8))
		a.Seen = append(a.Seen, 5, 4)
		a.Rest = append(a.Rest, all(9, 8), ball(list(1), 1, 3, 2))
		for i := range a.Rest {
			a.Rest[i].Ids = append(a.Rest[i].Ids, 1, 0)
			a.Rest[i].Lo = append(a.Rest[i].Lo, 3, 1)
			a.Rest[i].Hi = append(a.Rest[i].Hi, 2, 1)
		}
		return rows, list(0, 0, 55, 44), a
	}
	rows, q, whole := room()
	a := api.Answer{Hits: whole.Hits[:2], Seen: whole.Seen[:3], Rest: slices.Clone(whole.Rest)[:3]}
	for i := range a.Rest {
		r := &a.Rest[i]
		r.Ids, r.Lo, r.Hi = r.Ids[:1], r.Lo[:len(r.Lo)-2], r.Hi[:len(r.Hi)-2]
	}
	for range 3 {
		judgedIs(t, "within more room", rows[:6], q[:2], 2, a, true, false)
		a.Seen = whole.Seen[:4]
		judgedIs(t, "within more room, one too many", rows[:6], q[:2], 2, a, false, false)
		a.Seen = whole.Seen[:3]
	}
	wasRows, wasQ, was := room()
	if !reflect.DeepEqual(rows, wasRows) || !slices.Equal(q, wasQ) || !reflect.DeepEqual(whole, was) {
		t.Errorf("R2: left behind: %v, %v, %+v", rows, q, whole)
	}
}
