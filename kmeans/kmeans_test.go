package kmeans

import (
	"math"
	"math/big"
	"reflect"
	"slices"
	"testing"

	"theodolite/api"
	"theodolite/rand"
	"theodolite/wide"
)

const top = api.MaxCoord

func lo(n uint64) api.Wide { return api.Wide{Lo: n} }

func list(v ...int) []int { return v }

func lists(l ...[]int) [][]int { return l }

// line is vectors of one coordinate each.
func line(v ...int) [][]int {
	var l [][]int
	for _, x := range v {
		l = append(l, list(x))
	}
	return l
}

// filled is a vector of n coordinates, all x.
func filled(n, x int) []int {
	v := make([]int, n)
	for i := range v {
		v[i] = x
	}
	return v
}

// many is n vectors of one coordinate: 0, 1 and so on.
func many(n int) [][]int {
	var l [][]int
	for i := range n {
		l = append(l, list(i))
	}
	return l
}

func copied(l [][]int) [][]int {
	var to [][]int
	for _, v := range l {
		to = append(to, slices.Clone(v))
	}
	return to
}

func same(a, b [][]int) bool { return slices.EqualFunc(a, b, slices.Equal[[]int]) }

func asWide(n *big.Int) api.Wide {
	low := new(big.Int).And(n, new(big.Int).SetUint64(math.MaxUint64))
	return api.Wide{Hi: new(big.Int).Rsh(n, 64).Uint64(), Lo: low.Uint64()}
}

// plainDist says the distance anew, by numbers that have no end.
func plainDist(a, b []int) *big.Int {
	sum := new(big.Int)
	for i := range a {
		d := new(big.Int).Sub(big.NewInt(int64(a[i])), big.NewInt(int64(b[i])))
		sum.Add(sum, d.Mul(d, d))
	}
	return sum
}

// plainNear looks for the least distance, and then for the first centre that has it.
func plainNear(centres [][]int, v []int) (int, *big.Int) {
	var all []*big.Int
	for _, c := range centres {
		all = append(all, plainDist(c, v))
	}
	least := slices.MinFunc(all, (*big.Int).Cmp)
	return slices.IndexFunc(all, func(d *big.Int) bool { return d.Cmp(least) == 0 }), least
}

func plainCost(centres, l [][]int) *big.Int {
	sum := new(big.Int)
	for _, v := range l {
		_, d := plainNear(centres, v)
		sum.Add(sum, d)
	}
	return sum
}

// plainRound says a round anew: what is rounded down is divided as numbers that have no end, whose rest is never below 0.
func plainRound(centres, l [][]int) [][]int {
	next, mine := copied(centres), make([][][]int, len(centres))
	for _, v := range l {
		at, _ := plainNear(centres, v)
		mine[at] = append(mine[at], v)
	}
	for i := range centres {
		for j := 0; j < len(l[0]) && len(mine[i]) > 0; j++ {
			sum := new(big.Int)
			for _, v := range mine[i] {
				sum.Add(sum, big.NewInt(int64(v[j])))
			}
			next[i][j] = int(sum.Div(sum, big.NewInt(int64(len(mine[i])))).Int64())
		}
	}
	return next
}

func plainDrawn(t *testing.T, l [][]int, k int, seed uint64) [][]int {
	t.Helper()
	order, e := rand.New(seed).Perm(len(l))
	if e != api.OK {
		t.Fatalf("Perm(%d): %d", len(l), e)
	}
	var centres [][]int
	for i := range k {
		centres = append(centres, slices.Clone(l[order[i]]))
	}
	return centres
}

// source gives the same numbers in every run.
type source uint64

func (s *source) below(n int) int {
	*s ^= *s << 13
	*s ^= *s >> 7
	*s ^= *s << 17
	return int(uint64(*s) % uint64(n))
}

// vectors are n of dimension dim, all of them so near to nought that many stand twice or are as far as one another, or anywhere, or at the ends.
func (s *source) vectors(n, dim int) [][]int {
	var l [][]int
	how := s.below(4)
	for range n {
		v := make([]int, dim)
		for i := range v {
			switch how {
			case 0:
				v[i] = s.below(2*top+1) - top
			case 1:
				v[i] = list(-top, top)[s.below(2)]
			case 2:
				v[i] = s.below(5) - 2
			default:
				v[i] = s.below(201) - 150
			}
		}
		l = append(l, v)
	}
	return l
}

func trainIs(t *testing.T, l [][]int, k, rounds int, seed uint64, want [][]int) {
	t.Helper()
	if c, e := Train(l, k, rounds, seed); e != api.OK || !same(c, want) {
		t.Errorf("P6.1: Train of %d vectors, %d, %d, %d: %v, %d: want %v", len(l), k, rounds, seed, c, e, want)
	}
}

func trainFails(t *testing.T, l [][]int, k, rounds int, e api.Errno) {
	t.Helper()
	for _, seed := range []uint64{0, 7, math.MaxUint64} {
		if c, got := Train(l, k, rounds, seed); got != e || len(c) != 0 {
			t.Errorf("P6.1: Train of %d vectors, %d, %d, %d: %v, %d: want %d", len(l), k, rounds, seed, c, got, e)
		}
	}
}

func nearIs(t *testing.T, centres [][]int, v []int, at int, far api.Wide, e api.Errno) {
	t.Helper()
	if got, d, err := Near(centres, v); got != at || d != far || err != e {
		t.Errorf("P6.2: Near of %d centres, %v: %d, %v, %d: want %d, %v, %d", len(centres), v, got, d, err, at, far, e)
	}
}

func costIs(t *testing.T, centres, l [][]int, want api.Wide, e api.Errno) {
	t.Helper()
	if w, err := Cost(centres, l); w != want || err != e {
		t.Errorf("P6.3: Cost of %d centres, %d vectors: %v, %d: want %v, %d", len(centres), len(l), w, err, want, e)
	}
}

// The chapter's table, line by line.
func TestExamples(t *testing.T) {
	for seed := range uint64(100) {
		c, e := Train(line(0, 1, 10, 11), 2, 20, seed)
		if e != api.OK || !same(c, line(0, 10)) && !same(c, line(10, 0)) {
			t.Errorf("P6.1: seed %d: %v, %d", seed, c, e)
		}
		trainIs(t, lists(list(5, 5)), 1, 0, seed, lists(list(5, 5)))
		trainIs(t, line(-3, 0), 1, 1, seed, line(-2))
	}
	trainFails(t, nil, 1, 3, api.ErrMeansFew)
	trainFails(t, line(1), 0, 3, api.ErrArg)
	trainFails(t, lists(list(1), list(1, 2)), 1, 3, api.ErrVecDim)
	nearIs(t, line(0, 10), list(5), 0, lo(25), api.OK)
	nearIs(t, line(0, 10), list(6), 1, lo(16), api.OK)
	nearIs(t, nil, list(1), 0, lo(0), api.ErrArg)
	costIs(t, line(0, 10), line(1, 11, 4), lo(18), api.OK)
}

// Vectors of which the first error is this one, with the first one's length as the dimension.
func wrongVectors() []struct {
	l [][]int
	e api.Errno
} {
	return []struct {
		l [][]int
		e api.Errno
	}{
		{lists(nil), api.ErrVecDim},
		{lists(list()), api.ErrVecDim},
		{lists(filled(65, 0)), api.ErrVecDim},
		{lists(filled(65, top+1)), api.ErrVecDim},
		{lists(list(), list(1)), api.ErrVecDim},
		{line(top + 1), api.ErrVecCoord},
		{line(-top - 1), api.ErrVecCoord},
		{line(math.MinInt), api.ErrVecCoord},
		{line(math.MaxInt), api.ErrVecCoord},
		{line(1, 2, top+1), api.ErrVecCoord},
		{lists(append(filled(63, 0), top+1)), api.ErrVecCoord},
		{lists(list(1), list(1, 2)), api.ErrVecDim},
		{lists(list(1, 2), list(1)), api.ErrVecDim},
		{lists(list(1, 2), list(3, 4), nil), api.ErrVecDim},
		{lists(list(1), list(1, top+1)), api.ErrVecDim},
		{lists(list(top+1), list(1, 2)), api.ErrVecCoord},
		{lists(list(1), list(top+1), list(1, 2)), api.ErrVecCoord},
		{lists(list(1), list(1, 2), list(top+1)), api.ErrVecDim},
		{append(many(63), list(1, 2)), api.ErrVecDim},
		{append(many(63), list(-top-1)), api.ErrVecCoord},
	}
}

func wrongNumbers(most int) []int { return list(math.MinInt, -64, -1, most+1, 1<<32+1, math.MaxInt) }

// The numbers' error comes first, then that there are too many vectors, or too few, then the vectors'.
func TestTrainErrorsInOrder(t *testing.T) {
	spoilt := make([][]int, 513)
	for _, l := range [][][]int{nil, line(1), many(512), many(513), spoilt, lists(list(1), list(1, 2)), line(top + 1)} {
		for _, k := range append(wrongNumbers(64), 0) {
			for _, rounds := range append(wrongNumbers(20), 0, 20) {
				trainFails(t, l, k, rounds, api.ErrArg)
			}
		}
		for _, rounds := range wrongNumbers(20) {
			trainFails(t, l, 1, rounds, api.ErrArg)
			trainFails(t, l, 64, rounds, api.ErrArg)
		}
	}
	for _, k := range list(1, 64) {
		for _, rounds := range list(0, 20) {
			trainFails(t, many(513), k, rounds, api.ErrLong)
			trainFails(t, spoilt, k, rounds, api.ErrLong)
			trainFails(t, nil, k, rounds, api.ErrMeansFew)
			trainFails(t, lists(), k, rounds, api.ErrMeansFew)
			trainFails(t, many(k-1), k, rounds, api.ErrMeansFew)
			trainFails(t, spoilt[:k-1], k, rounds, api.ErrMeansFew)
			trainFails(t, spoilt[:512], k, rounds, api.ErrVecDim)
		}
	}
	for _, x := range wrongVectors() {
		for _, rounds := range list(0, 1, 20) {
			trainFails(t, x.l, 1, rounds, x.e)
			trainFails(t, x.l, len(x.l), rounds, x.e)
			if len(x.l) < 64 {
				trainFails(t, x.l, len(x.l)+1, rounds, api.ErrMeansFew)
			}
		}
	}
	trainFails(t, append(many(511), list(top+1)), 3, 2, api.ErrVecCoord)
}

// How many the centres are comes first, then their vectors' errors, then what is asked of them.
func TestNearErrorsInOrder(t *testing.T) {
	wrong := []struct {
		v []int
		e api.Errno
	}{{nil, api.ErrVecDim}, {list(), api.ErrVecDim}, {list(1, 2), api.ErrVecDim}, {list(1, top+1), api.ErrVecDim}, {filled(65, 0), api.ErrVecDim},
		{list(top + 1), api.ErrVecCoord}, {list(-top - 1), api.ErrVecCoord}, {list(math.MinInt), api.ErrVecCoord}}
	for _, centres := range [][][]int{nil, {}, many(65), make([][]int, 65), append(many(64), list(top+1)), many(512)} {
		nearIs(t, centres, list(1), 0, lo(0), api.ErrArg)
		costIs(t, centres, line(1), lo(0), api.ErrArg)
		costIs(t, centres, nil, lo(0), api.ErrArg)
		costIs(t, centres, many(513), lo(0), api.ErrArg)
		for _, x := range wrong {
			nearIs(t, centres, x.v, 0, lo(0), api.ErrArg)
			costIs(t, centres, lists(x.v), lo(0), api.ErrArg)
		}
	}
	for _, bad := range wrongVectors() {
		nearIs(t, bad.l, list(1), 0, lo(0), bad.e)
		costIs(t, bad.l, nil, lo(0), bad.e)
		costIs(t, bad.l, many(513), lo(0), bad.e)
		for _, x := range wrong {
			nearIs(t, bad.l, x.v, 0, lo(0), bad.e)
			costIs(t, bad.l, lists(x.v), lo(0), bad.e)
		}
	}
	for _, centres := range [][][]int{line(3), many(64)} {
		costIs(t, centres, many(513), lo(0), api.ErrLong)
		costIs(t, centres, make([][]int, 513), lo(0), api.ErrLong)
		for _, x := range wrong {
			nearIs(t, centres, x.v, 0, lo(0), x.e)
			costIs(t, centres, lists(x.v), lo(0), x.e)
			costIs(t, centres, append(many(511), x.v), lo(0), x.e)
			costIs(t, centres, lists(x.v, list(1)), lo(0), x.e)
		}
		costIs(t, centres, lists(list(top+1), list(1, 2)), lo(0), api.ErrVecCoord)
		costIs(t, centres, lists(list(1, 2), list(top+1)), lo(0), api.ErrVecDim)
	}
}

// What may just be: the most centres, rounds, vectors, coordinates, and the least.
func TestEdges(t *testing.T) {
	for _, x := range []struct{ n, dim, k, rounds int }{
		{1, 1, 1, 0}, {1, 64, 1, 20}, {64, 1, 64, 20}, {512, 1, 1, 20}, {512, 2, 64, 20}, {512, 64, 64, 0}, {65, 64, 64, 3},
	} {
		s := source(88172645463325252)
		l := s.vectors(x.n, x.dim)
		if c, e := Train(l, x.k, x.rounds, 9); e != api.OK || len(c) != x.k || len(c[0]) != x.dim {
			t.Errorf("P6.1: Train of %+v: %d centres, %d", x, len(c), e)
		}
	}
	for _, x := range list(-top, top) {
		trainIs(t, lists(filled(64, x)), 1, 20, 5, lists(filled(64, x)))
		// The sum of so many ends is beyond 32 bits.
		ends := make([][]int, 512)
		for i := range ends {
			ends[i] = filled(3, x)
		}
		trainIs(t, ends, 1, 20, 5, lists(filled(3, x)))
	}
	trainIs(t, line(-top, top), 1, 1, 5, line(0))
	// The greatest distance that there is, and 512 of them, beyond 64 bits.
	far := api.Wide{Hi: 63, Lo: 18446742974197924096}
	nearIs(t, lists(filled(64, top)), filled(64, -top), 0, far, api.OK)
	nearIs(t, lists(filled(64, top), filled(64, -top)), filled(64, -top), 1, lo(0), api.OK)
	nearIs(t, many(64), list(top), 63, asWide(plainDist(list(63), list(top))), api.OK)
	var l [][]int
	for range 512 {
		l = append(l, filled(64, -top))
	}
	costIs(t, lists(filled(64, top)), l, asWide(plainCost(lists(filled(64, top)), l)), api.OK)
	for _, none := range [][][]int{nil, {}} {
		costIs(t, line(5, 6), none, lo(0), api.OK)
	}
}

// Rounded down, not towards 0, and exact where nothing is left.
func TestRounding(t *testing.T) {
	for _, x := range []struct {
		l    []int
		want int
	}{
		{list(-3, 0), -2}, {list(3, 0), 1}, {list(-4, 0), -2}, {list(4, 0), 2}, {list(-1, 0, 0), -1}, {list(1, 0, 0), 0},
		{list(-2, 0, 0), -1}, {list(-3, 0, 0), -1}, {list(-1, 1), 0}, {list(-top, -top, -top+1), -top}, {list(top, top, top-1), top - 1},
		{list(-top, -top+1), -top}, {list(top, top-1), top - 1},
	} {
		for _, seed := range []uint64{0, 1, 2} {
			trainIs(t, line(x.l...), 1, 1, seed, line(x.want))
			trainIs(t, line(x.l...), 1, 20, seed, line(x.want))
		}
	}
}

// Of several centres that are as near the first one counts; one to which nothing belongs stays.
func TestTies(t *testing.T) {
	nearIs(t, line(4, 4, 6), list(5), 0, lo(1), api.OK)
	nearIs(t, line(9, 6, 4), list(5), 1, lo(1), api.OK)
	nearIs(t, line(9, 4, 6), list(5), 1, lo(1), api.OK)
	nearIs(t, lists(list(9, 9), list(0, 5), list(3, 4), list(5, 0)), list(0, 0), 1, lo(25), api.OK)
	for seed := range uint64(20) {
		// Both centres begin at 7: all vectors belong to the first, the second stays whatever the rounds.
		trainIs(t, line(7, 7, 7), 2, 20, seed, line(7, 7))
		c, e := Train(line(7, 7, 9), 3, 20, seed)
		was := plainDrawn(t, line(7, 7, 9), 3, seed)
		if e != api.OK || !same(c, was) {
			t.Errorf("P6.1: seed %d: %v, %d: want %v", seed, c, e, was)
		}
	}
}

func TestTrainAgainstPlain(t *testing.T) {
	s := source(362436069)
	for _, dim := range list(1, 2, 3, 17, 64) {
		for _, n := range list(1, 2, 3, 8, 40, 64, 70) {
			for _, k := range list(1, 2, 3, 8, 40, 64) {
				if k > n || dim > 3 && n*k > 500 {
					continue
				}
				l, seed := s.vectors(n, dim), uint64(s.below(math.MaxInt))<<1
				want := plainDrawn(t, l, k, seed)
				for rounds := range api.MaxRounds + 1 {
					trainIs(t, l, k, rounds, seed, want)
					want = plainRound(want, l)
				}
			}
		}
	}
}

func TestNearAndCostAgainstPlain(t *testing.T) {
	s := source(521288629)
	for _, dim := range list(1, 2, 5, 64) {
		for _, k := range list(1, 2, 3, 20, 64) {
			for range 4 {
				centres, l := s.vectors(k, dim), s.vectors(1+s.below(60), dim)
				for _, v := range append(l, centres...) {
					at, far := plainNear(centres, v)
					nearIs(t, centres, v, at, asWide(far), api.OK)
				}
				costIs(t, centres, l, asWide(plainCost(centres, l)), api.OK)
				costIs(t, centres, centres, lo(0), api.OK)
			}
		}
	}
}

// P6.4: what follows.
func TestFollows(t *testing.T) {
	s := source(2463534242)
	for range 60 {
		dim, n := 1+s.below(5), 1+s.below(64)
		l, seed := s.vectors(n, dim), uint64(s.below(math.MaxInt))
		all, e := Train(l, n, 0, seed)
		if e != api.OK {
			t.Fatalf("P6.4: %d", e)
		}
		costIs(t, all, l, lo(0), api.OK)
		for _, rounds := range list(0, 1, 5, 20) {
			centres, e := Train(l, 1+s.below(n), rounds, seed)
			if e != api.OK {
				t.Fatalf("P6.4: %d", e)
			}
			liesBetween(t, centres, l)
			nothingIsNearer(t, centres, s.vectors(5, dim))
			if len(centres) < api.MaxLists {
				costsNoMore(t, centres, s.vectors(1, dim)[0], l)
			}
		}
	}
}

func liesBetween(t *testing.T, centres, l [][]int) {
	t.Helper()
	for i := range l[0] {
		least, most := top, -top
		for _, v := range l {
			least, most = min(least, v[i]), max(most, v[i])
		}
		for _, c := range centres {
			if c[i] < least || c[i] > most {
				t.Fatalf("P6.4: the centre %v is not between %d and %d at the place %d", c, least, most, i)
			}
		}
	}
}

func nothingIsNearer(t *testing.T, centres, l [][]int) {
	t.Helper()
	for _, v := range l {
		at, far, e := Near(centres, v)
		if e != api.OK || asWide(plainDist(centres[at], v)) != far {
			t.Fatalf("P6.4: Near(%v, %v): %d, %v, %d", centres, v, at, far, e)
		}
		for _, c := range centres {
			if plainDist(c, v).Cmp(plainDist(centres[at], v)) < 0 {
				t.Fatalf("P6.4: %v is nearer to %v than %v", c, v, centres[at])
			}
		}
	}
}

func costsNoMore(t *testing.T, centres [][]int, more []int, l [][]int) {
	t.Helper()
	for _, place := range list(0, len(centres)) {
		before, e := Cost(centres, l)
		after, e2 := Cost(slices.Insert(copied(centres), place, more), l)
		if e != api.OK || e2 != api.OK || wide.Cmp(after, before) > 0 {
			t.Fatalf("P6.4: the centre %v more: %v, %d, ahead of it %v, %d", more, after, e2, before, e)
		}
	}
}

// R2: what is handed in is not written into, nor its spare room.
func TestNothingIsWritten(t *testing.T) {
	room := func() [][]int { return lists(list(5, -3, 77), list(0, 1, 78), list(9, 9, 79), list(6, 6, 80)) }
	cut := func(l [][]int) [][]int {
		var to [][]int
		for _, v := range l {
			to = append(to, v[:2])
		}
		return to
	}
	l, centres := room(), room()
	short, few := cut(l), cut(centres)
	for k := 1; k <= 3; k++ {
		Train(short[:3], k, 20, 5)
	}
	Near(few[:2], short[3])
	Cost(few[:2], short[:3])
	if !same(l, room()) || !same(centres, room()) || !same(short, cut(room())) || !same(few, cut(room())) {
		t.Errorf("R2: left behind: %v, %v, %v, %v", l, centres, short, few)
	}
}

// R2: centres are new memory, also where a vector is handed in twice, and nothing is kept from one call to the next.
func TestAnswersAreNew(t *testing.T) {
	v := list(1, 2, 3)[:2]
	for _, rounds := range list(0, 1, 20) {
		l := lists(v, v, v)
		c, e := Train(l, 3, rounds, 4)
		if e != api.OK {
			t.Fatalf("R2: %d", e)
		}
		was := copied(c)
		for i := range c {
			grown := append(c[i], 55)
			grown[0], c[i][1] = -9, -8
			for j := i + 1; j < len(c); j++ {
				if !slices.Equal(c[j], was[j]) {
					t.Fatalf("R2: the centres %d and %d share memory: %v", i, j, c)
				}
			}
		}
		if !slices.Equal(v[:3], list(1, 2, 3)) {
			t.Fatalf("R2: the centres share memory with the vectors: %v", v[:3])
		}
		if again, _ := Train(l, 3, rounds, 4); !reflect.DeepEqual(again, was) {
			t.Errorf("R2: asked again: %v: want %v", again, was)
		}
	}
	l := line(1, 2, 3, 4)
	c, _ := Train(l, 2, 3, 8)
	was := copied(c)
	for i := range l {
		l[i][0] = 99
	}
	if !same(c, was) {
		t.Errorf("R2: the centres hang on what was handed in: %v: want %v", c, was)
	}
}
