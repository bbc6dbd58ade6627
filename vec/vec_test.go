package vec

import (
	"math"
	"math/big"
	"slices"
	"testing"

	"theodolite/api"
)

const top = api.MaxCoord

func lo(n uint64) api.Wide { return api.Wide{Lo: n} }

func list(v ...int) []int { return v }

// filled is a vector of n coordinates, all x.
func filled(n, x int) []int {
	v := make([]int, n)
	for i := range v {
		v[i] = x
	}
	return v
}

func all(ids ...int) api.Region { return api.Region{Shape: api.ShapeAll, Ids: ids} }

func box(low, high []int) api.Region { return api.Region{Shape: api.ShapeBox, Lo: low, Hi: high} }

func ball(centre []int, radius api.Wide) api.Region {
	return api.Region{Shape: api.ShapeBall, Lo: centre, Radius: radius}
}

func row(id int, v ...int) api.Row { return api.Row{Id: id, V: v} }

// many is n rows of one coordinate, with the ids 1 to n.
func many(n int) []api.Row {
	var rows []api.Row
	for i := range n {
		rows = append(rows, row(i+1, i))
	}
	return rows
}

func asBig(a api.Wide) *big.Int {
	n := new(big.Int).SetUint64(a.Hi)
	n.Lsh(n, 64)
	return n.Or(n, new(big.Int).SetUint64(a.Lo))
}

// asWide is nought if a Wide can not say n: no test asks for such a number.
func asWide(n *big.Int) api.Wide {
	if n.Sign() < 0 || n.BitLen() > 128 {
		return api.Wide{}
	}
	mask := new(big.Int).SetUint64(math.MaxUint64)
	return api.Wide{Hi: new(big.Int).Rsh(n, 64).Uint64(), Lo: new(big.Int).And(n, mask).Uint64()}
}

func square(n *big.Int) *big.Int { return new(big.Int).Mul(n, n) }

// plainDist says the distance anew, by numbers that have no end.
func plainDist(a, b []int) *big.Int {
	sum := new(big.Int)
	for i := range a {
		sum.Add(sum, square(new(big.Int).Sub(big.NewInt(int64(a[i])), big.NewInt(int64(b[i])))))
	}
	return sum
}

// nearest is the vector of a box that is nearest to q.
func nearest(r api.Region, q []int) []int {
	v := slices.Clone(q)
	for i := range v {
		v[i] = max(r.Lo[i], min(r.Hi[i], v[i]))
	}
	return v
}

func plainBound(r api.Region, q []int) *big.Int {
	switch r.Shape {
	case api.ShapeBox:
		return plainDist(nearest(r, q), q)
	case api.ShapeBall:
		s := new(big.Int).Sqrt(plainDist(r.Lo, q))
		t := new(big.Int).Sqrt(asBig(r.Radius))
		if square(t).Cmp(asBig(r.Radius)) != 0 {
			t.Add(t, big.NewInt(1))
		}
		if s.Cmp(t) > 0 {
			return square(s.Sub(s, t))
		}
	}
	return new(big.Int)
}

func plainInside(r api.Region, v []int) bool {
	switch r.Shape {
	case api.ShapeBox:
		return slices.Equal(nearest(r, v), v)
	case api.ShapeBall:
		return plainDist(r.Lo, v).Cmp(asBig(r.Radius)) <= 0
	}
	return true
}

// source gives the same numbers in every run.
type source uint64

func (s *source) below(n int) int {
	*s ^= *s << 13
	*s ^= *s >> 7
	*s ^= *s << 17
	return int(uint64(*s) % uint64(n))
}

// vector is one of dimension dim, its coordinates near to nought, or anywhere, or at the ends.
func (s *source) vector(dim int) []int {
	v := make([]int, dim)
	for i := range v {
		switch s.below(4) {
		case 0:
			v[i] = s.below(2*top+1) - top
		case 1:
			v[i] = list(-top, 1-top, -1, 0, 1, top-1, top)[s.below(7)]
		default:
			v[i] = s.below(11) - 5
		}
	}
	return v
}

// regions are some of each shape, of dimension dim.
func (s *source) regions(dim int) []api.Region {
	a, b, c := s.vector(dim), s.vector(dim), s.vector(dim)
	low, high := slices.Clone(a), slices.Clone(a)
	for i := range a {
		low[i], high[i] = min(a[i], b[i]), max(a[i], b[i])
	}
	far := asWide(plainDist(a, b))
	return []api.Region{all(), box(low, high), box(a, a),
		ball(c, far), ball(a, far), ball(a, lo(uint64(s.below(50)))), ball(a, lo(0)),
		ball(a, api.Wide{Hi: uint64(s.below(70)), Lo: far.Lo})}
}

var dims = []int{1, 2, 3, 7, 63, 64}

// The chapter's table, line by line.
func TestExamples(t *testing.T) {
	for _, x := range []struct {
		v   []int
		dim int
		e   api.Errno
	}{{list(1, 2), 2, api.OK}, {list(1, 2), 3, api.ErrVecDim}, {nil, 0, api.ErrVecDim}, {list(2147483648), 1, api.ErrVecCoord}} {
		if e := Check(x.v, x.dim); e != x.e {
			t.Errorf("P3.1: Check(%v, %d): %d", x.v, x.dim, e)
		}
	}
	distIs(t, list(0, 0), list(3, 4), lo(25), api.OK)
	distIs(t, list(-2147483647), list(2147483647), lo(18446744056529682436), api.OK)
	distIs(t, list(1), list(1, 2), lo(0), api.ErrVecDim)

	four := box(list(0, 0), list(4, 4))
	insideIs(t, four, list(4, 0), true, api.OK)
	boundIs(t, four, list(7, 8), lo(9+16), api.OK)
	boundIs(t, four, list(1, 2), lo(0), api.OK)
	boundIs(t, ball(list(0, 0), lo(5)), list(6, 8), lo(49), api.OK)
	boundIs(t, ball(list(0, 0), lo(4)), list(6, 8), lo(64), api.OK)
	boundIs(t, ball(list(0, 0), lo(200)), list(6, 8), lo(0), api.OK)

	for _, r := range []api.Region{box(list(4), list(0)), {Shape: 4}, {Shape: api.ShapeAll, Lo: list(1)}} {
		if e := CheckRegion(r, 1); e != api.ErrVecShape {
			t.Errorf("P3.3: CheckRegion(%+v, 1): %d", r, e)
		}
	}
	rows := []api.Row{row(9, 1, 5), row(4, 3, 2)}
	boxIs(t, rows, 2, api.Region{Shape: api.ShapeBox, Lo: list(1, 2), Hi: list(3, 5), Ids: list(4, 9)}, api.OK)
	ballIs(t, list(1, 1), rows, api.Region{Shape: api.ShapeBall, Lo: list(1, 1), Radius: lo(16), Ids: list(4, 9)}, api.OK)
}

func distIs(t *testing.T, a, b []int, want api.Wide, e api.Errno) {
	t.Helper()
	if d, got := Dist(a, b); d != want || got != e {
		t.Errorf("P3.2: Dist(%v, %v): %v, %d: want %v, %d", a, b, d, got, want, e)
	}
}

func insideIs(t *testing.T, r api.Region, v []int, want bool, e api.Errno) {
	t.Helper()
	if in, got := Inside(r, v); in != want || got != e {
		t.Errorf("P3.4: Inside(%+v, %v): %v, %d: want %v, %d", r, v, in, got, want, e)
	}
}

func boundIs(t *testing.T, r api.Region, q []int, want api.Wide, e api.Errno) {
	t.Helper()
	if b, got := Bound(r, q); b != want || got != e {
		t.Errorf("P3.5: Bound(%+v, %v): %v, %d: want %v, %d", r, q, b, got, want, e)
	}
}

func sameRegion(a, b api.Region) bool {
	return a.Shape == b.Shape && slices.Equal(a.Lo, b.Lo) && slices.Equal(a.Hi, b.Hi) &&
		a.Radius == b.Radius && slices.Equal(a.Ids, b.Ids)
}

func boxIs(t *testing.T, rows []api.Row, dim int, want api.Region, e api.Errno) {
	t.Helper()
	if r, got := Box(rows, dim); !sameRegion(r, want) || got != e {
		t.Errorf("P3.6: Box(%v, %d): %+v, %d: want %+v, %d", rows, dim, r, got, want, e)
	}
}

func ballIs(t *testing.T, centre []int, rows []api.Row, want api.Region, e api.Errno) {
	t.Helper()
	if r, got := Ball(centre, rows); !sameRegion(r, want) || got != e {
		t.Errorf("P3.6: Ball(%v, %v): %+v, %d: want %+v, %d", centre, rows, r, got, want, e)
	}
}

func TestCheck(t *testing.T) {
	for n := range 70 {
		v := filled(n, -top)
		for _, dim := range list(math.MinInt, -1, 0, n-1, n, n+1, 1, 63, 64, 65, math.MaxInt) {
			want := api.ErrVecDim
			if dim == n && n >= 1 && n <= 64 {
				want = api.OK
			}
			if e := Check(v, dim); e != want {
				t.Errorf("P3.1: Check of %d coordinates, %d: %d", n, dim, e)
			}
		}
	}
	for _, x := range list(math.MinInt, -top-2, -top-1, top+1, top+2, math.MaxInt) {
		for at := range 3 {
			v := list(top, -top, 0)
			v[at] = x
			if e := Check(v, 3); e != api.ErrVecCoord {
				t.Errorf("P3.1: Check(%v, 3): %d", v, e)
			}
			// The dimension comes ahead of the coordinates.
			if e := Check(v, 2); e != api.ErrVecDim {
				t.Errorf("P3.1: Check(%v, 2): %d", v, e)
			}
		}
	}
}

func TestDist(t *testing.T) {
	s := source(88172645463325252)
	for _, dim := range dims {
		for range 200 {
			a, b := s.vector(dim), s.vector(dim)
			distIs(t, a, b, asWide(plainDist(a, b)), api.OK)
		}
	}
	// The greatest distance that there is, beyond 64 bits.
	distIs(t, filled(64, top), filled(64, -top), api.Wide{Hi: 63, Lo: 18446742974197924096}, api.OK)
	distIs(t, list(-top, top), list(top, -top), api.Wide{Hi: 1, Lo: 18446744039349813256}, api.OK)
	distIs(t, filled(64, top), filled(64, top), lo(0), api.OK)
	distIs(t, list(5), list(-2), lo(49), api.OK)
	distIs(t, list(-2), list(5), lo(49), api.OK)
}

func TestDistErrors(t *testing.T) {
	for _, x := range []struct {
		a, b []int
		e    api.Errno
	}{
		{nil, nil, api.ErrVecDim},
		{list(), list(1), api.ErrVecDim},
		{list(1), nil, api.ErrVecDim},
		{list(1, 2), list(1), api.ErrVecDim},
		{filled(65, 0), filled(65, 0), api.ErrVecDim},
		{list(top + 1), list(0), api.ErrVecCoord},
		{list(0), list(-top - 1), api.ErrVecCoord},
		{list(math.MinInt), list(math.MaxInt), api.ErrVecCoord},
		// a's error comes ahead of b's, and a length ahead of what stands there.
		{list(top + 1), list(0, 0), api.ErrVecCoord},
		{list(0), list(0, top+1), api.ErrVecDim},
		{filled(65, 0), list(top + 1), api.ErrVecDim},
	} {
		distIs(t, x.a, x.b, lo(0), x.e)
	}
}

func TestCheckRegion(t *testing.T) {
	low, high := list(1, 2), list(3, 2)
	for i, x := range []struct {
		r   api.Region
		dim int
		e   api.Errno
	}{
		{all(), 1, api.OK},
		{all(1, 2, api.MaxId), 64, api.OK},
		{api.Region{Shape: api.ShapeAll, Lo: list(), Hi: list(), Ids: list()}, 3, api.OK},
		{box(low, high), 2, api.OK},
		{box(low, low), 2, api.OK},
		{box(filled(64, -top), filled(64, top)), 64, api.OK},
		{api.Region{Shape: api.ShapeBox, Lo: low, Hi: high, Ids: list(1, 7)}, 2, api.OK},
		{ball(low, lo(0)), 2, api.OK},
		{ball(low, api.Wide{Hi: math.MaxUint64, Lo: math.MaxUint64}), 2, api.OK},
		{api.Region{Shape: api.ShapeBall, Lo: low, Hi: list(), Ids: list(5)}, 2, api.OK},

		{box(list(4), list(0)), 1, api.ErrVecShape},
		{box(list(0, 1), list(5, 0)), 2, api.ErrVecShape},
		{box(list(1, 0), list(0, 5)), 2, api.ErrVecShape},
		{box(low, high), 1, api.ErrVecDim},
		{box(low, high), 3, api.ErrVecDim},
		{box(low, list(3)), 2, api.ErrVecDim},
		{box(nil, high), 2, api.ErrVecDim},
		{box(list(1, top+1), high), 2, api.ErrVecCoord},
		{box(low, list(3, top+1)), 2, api.ErrVecCoord},
		{ball(low, lo(1)), 1, api.ErrVecDim},
		{ball(nil, lo(1)), 1, api.ErrVecDim},
		{ball(list(-top-1, 0), lo(1)), 2, api.ErrVecCoord},
	} {
		if e := CheckRegion(x.r, x.dim); e != x.e {
			t.Errorf("P3.3: region %d: CheckRegion(%+v, %d): %d", i, x.r, x.dim, e)
		}
	}
	for _, dim := range list(math.MinInt, -1, 0, 65, math.MaxInt) {
		for _, r := range []api.Region{all(), {}, {Shape: 9}, box(low, high), all(2, 1)} {
			if e := CheckRegion(r, dim); e != api.ErrVecDim {
				t.Errorf("P3.3: CheckRegion(%+v, %d): %d", r, dim, e)
			}
		}
	}
	for dim := 1; dim <= 64; dim++ {
		if e := CheckRegion(all(), dim); e != api.OK {
			t.Errorf("P3.3: CheckRegion of all, %d: %d", dim, e)
		}
	}
}

// What is wrong with a region's fields or ids comes ahead of what is wrong with its coordinates.
func TestCheckRegionShape(t *testing.T) {
	one, bad := list(1), list(top+1)
	for i, r := range []api.Region{
		{}, {Shape: -1}, {Shape: 4}, {Shape: math.MaxInt}, {Shape: math.MinInt},
		{Shape: api.ShapeAll, Lo: one}, {Shape: api.ShapeAll, Lo: bad},
		{Shape: api.ShapeAll, Hi: one}, {Shape: api.ShapeAll, Hi: list(0)},
		{Shape: api.ShapeAll, Radius: lo(1)}, {Shape: api.ShapeAll, Radius: api.Wide{Hi: 1}},
		{Shape: api.ShapeBox, Lo: one, Hi: one, Radius: lo(1)},
		{Shape: api.ShapeBox, Lo: bad, Hi: one, Radius: api.Wide{Hi: 1}},
		{Shape: api.ShapeBall, Lo: one, Hi: one},
		{Shape: api.ShapeBall, Lo: list(1, 2), Hi: list(0)},
	} {
		if e := CheckRegion(r, 1); e != api.ErrVecShape {
			t.Errorf("P3.3: region %d: CheckRegion(%+v, 1): %d", i, r, e)
		}
	}
	for _, ids := range [][]int{{0}, {-1}, {math.MinInt}, {api.MaxId + 1}, {math.MaxInt}, {2, 2}, {2, 1}, {1, 3, 3}, {1, 3, 2}, {0, 1}, {1, api.MaxId + 1}} {
		for _, r := range []api.Region{all(), box(one, one), box(bad, nil), ball(one, lo(1)), ball(bad, lo(1))} {
			r.Ids = ids
			if e := CheckRegion(r, 1); e != api.ErrVecShape {
				t.Errorf("P3.3: CheckRegion(%+v, 1): %d", r, e)
			}
		}
	}
}

// The errors that Inside and Bound share.
func TestRegionAndVectorErrors(t *testing.T) {
	for _, x := range []struct {
		r api.Region
		v []int
		e api.Errno
	}{
		{all(), nil, api.ErrVecDim},
		{api.Region{}, list(), api.ErrVecDim},
		{all(), filled(65, 0), api.ErrVecDim},
		{all(), list(top + 1), api.ErrVecCoord},
		{api.Region{}, list(1), api.ErrVecShape},
		{all(3, 3), list(top + 1), api.ErrVecShape},
		{box(list(4), list(0)), list(top + 1), api.ErrVecShape},
		{box(list(0), list(4)), list(1, 1), api.ErrVecDim},
		{box(list(0), list(4)), list(top+1, 1), api.ErrVecDim},
		{box(list(0), list(4)), list(-top - 1), api.ErrVecCoord},
		{box(list(0), list(top+1)), list(1), api.ErrVecCoord},
		{ball(list(0), lo(4)), list(1, 1), api.ErrVecDim},
		{ball(list(0), lo(4)), list(math.MinInt), api.ErrVecCoord},
		{ball(list(math.MaxInt), lo(4)), list(0), api.ErrVecCoord},
	} {
		insideIs(t, x.r, x.v, false, x.e)
		boundIs(t, x.r, x.v, lo(0), x.e)
	}
}

func TestInsideEdges(t *testing.T) {
	b := box(list(-1, 2), list(3, 2))
	for _, x := range []struct {
		v  []int
		in bool
	}{
		{list(-1, 2), true}, {list(3, 2), true}, {list(0, 2), true},
		{list(-2, 2), false}, {list(4, 2), false}, {list(0, 1), false}, {list(0, 3), false},
	} {
		insideIs(t, b, x.v, x.in, api.OK)
	}
	for _, x := range []struct {
		radius uint64
		in     bool
	}{{24, false}, {25, true}, {26, true}, {0, false}} {
		insideIs(t, ball(list(1, 1), lo(x.radius)), list(4, 5), x.in, api.OK)
	}
	insideIs(t, ball(list(1, 1), lo(0)), list(1, 1), true, api.OK)
	far := api.Wide{Hi: 63, Lo: 18446742974197924096}
	insideIs(t, ball(filled(64, top), far), filled(64, -top), true, api.OK)
	insideIs(t, ball(filled(64, top), api.Wide{Hi: far.Hi, Lo: far.Lo - 1}), filled(64, -top), false, api.OK)
	insideIs(t, all(), list(top, -top), true, api.OK)
}

func TestBoundEdges(t *testing.T) {
	b := box(list(-1, 2), list(3, 2))
	for _, x := range []struct {
		q    []int
		want uint64
	}{
		{list(-1, 2), 0}, {list(3, 2), 0}, {list(-3, 2), 4}, {list(5, 2), 4},
		{list(0, 0), 4}, {list(0, 5), 9}, {list(-2, 4), 5}, {list(4, 1), 2},
	} {
		boundIs(t, b, x.q, lo(x.want), api.OK)
	}
	corner := filled(64, top)
	boundIs(t, box(corner, corner), filled(64, -top), api.Wide{Hi: 63, Lo: 18446742974197924096}, api.OK)
	// s is 5 throughout: distances from 25 to 35.
	for _, x := range []struct {
		radius, want uint64
	}{{0, 25}, {1, 16}, {2, 9}, {4, 9}, {5, 4}, {9, 4}, {10, 1}, {16, 1}, {17, 0}, {25, 0}, {26, 0}} {
		boundIs(t, ball(list(0, 0), lo(x.radius)), list(3, 4), lo(x.want), api.OK)
		boundIs(t, ball(list(0, 0), lo(x.radius)), list(5, 3), lo(x.want), api.OK)
	}
	// Radii whose root, rounded up, is more than 64 bits say.
	for _, radius := range []api.Wide{{Hi: math.MaxUint64, Lo: math.MaxUint64}, {Hi: math.MaxUint64 - 1, Lo: 2}, {Hi: math.MaxUint64 - 1, Lo: 1}} {
		boundIs(t, ball(corner, radius), filled(64, -top), lo(0), api.OK)
		boundIs(t, ball(corner, radius), corner, lo(0), api.OK)
	}
	boundIs(t, ball(corner, lo(0)), filled(64, -top), asWide(square(big.NewInt(8*2*top))), api.OK)
	boundIs(t, all(), list(top), lo(0), api.OK)
}

func TestInsideAndBound(t *testing.T) {
	s := source(362436069)
	for _, dim := range dims {
		for range 100 {
			for _, r := range s.regions(dim) {
				v := s.vector(dim)
				insideIs(t, r, v, plainInside(r, v), api.OK)
				boundIs(t, r, v, asWide(plainBound(r, v)), api.OK)
			}
		}
	}
}

// P3.7: what lies in a region is at least as far from q as the bound.
func TestBoundHolds(t *testing.T) {
	s := source(521288629)
	inside := 0
	for _, dim := range list(1, 2, 3, 64) {
		for range 400 {
			for _, r := range s.regions(dim) {
				v, q := s.vector(dim), s.vector(dim)
				if r.Shape == api.ShapeBox {
					v = nearest(r, v)
				}
				if in, e := Inside(r, v); !in || e != api.OK {
					continue
				}
				inside++
				b, _ := Bound(r, q)
				if asBig(b).Cmp(plainDist(v, q)) > 0 {
					t.Fatalf("P3.7: %v lies in %+v, nearer to %v than the bound %v", v, r, q, b)
				}
				if b, _ = Bound(r, v); b != lo(0) {
					t.Fatalf("P3.7: %v lies in %+v, whose bound for it is %v", v, r, b)
				}
			}
		}
	}
	if inside < 1000 {
		t.Errorf("only %d vectors lay inside: the test says little", inside)
	}
}

// P3.7, T1: the same both ways, 0 just of a vector and itself, and the same when both are moved.
func TestDistFollows(t *testing.T) {
	s := source(123456789)
	for _, dim := range dims {
		for range 100 {
			a, b := s.vector(dim), s.vector(dim)
			there, _ := Dist(a, b)
			if back, _ := Dist(b, a); there != back {
				t.Fatalf("P3.7: %v to %v: %v, back: %v", a, b, there, back)
			}
			if (there == lo(0)) != slices.Equal(a, b) {
				t.Fatalf("P3.7: Dist(%v, %v): %v", a, b, there)
			}
			distIs(t, a, a, lo(0), api.OK)
			for i := range a {
				by := s.below(2001) - 1000
				a[i], b[i] = a[i]/2, b[i]/2
				there, _ = Dist(a, b)
				a[i], b[i] = a[i]+by, b[i]+by
				distIs(t, a, b, there, api.OK)
			}
		}
	}
	// One apart in the last coordinate alone, at the end of the numbers.
	distIs(t, append(filled(63, top), top), append(filled(63, top), top-1), lo(1), api.OK)
}

func TestBoxAndBall(t *testing.T) {
	s := source(777767777)
	for _, dim := range dims {
		for _, count := range list(1, 2, 3, 40) {
			var rows []api.Row
			var ids []int
			for i := range count {
				// Ids neither rise nor fall, and none stands twice, as 37 and 41 have no divisor in common.
				rows = append(rows, row(1+i*37%41, s.vector(dim)...))
				ids = append(ids, rows[i].Id)
			}
			slices.Sort(ids)
			low, high, centre, radius := filled(dim, top), filled(dim, -top), s.vector(dim), new(big.Int)
			for _, x := range rows {
				for i := range dim {
					low[i], high[i] = min(low[i], x.V[i]), max(high[i], x.V[i])
				}
				if d := plainDist(centre, x.V); d.Cmp(radius) > 0 {
					radius = d
				}
			}
			boxIs(t, rows, dim, api.Region{Shape: api.ShapeBox, Lo: low, Hi: high, Ids: ids}, api.OK)
			ballIs(t, centre, rows, api.Region{Shape: api.ShapeBall, Lo: centre, Radius: asWide(radius), Ids: ids}, api.OK)
			regionsHold(t, rows, centre)
		}
	}
}

// regionsHold asks whether the box and the ball of rows may be, and whether all rows lie in them.
func regionsHold(t *testing.T, rows []api.Row, centre []int) {
	t.Helper()
	dim := len(centre)
	b, _ := Box(rows, dim)
	c, _ := Ball(centre, rows)
	for _, r := range []api.Region{b, c} {
		if e := CheckRegion(r, dim); e != api.OK {
			t.Fatalf("P3.6: CheckRegion(%+v, %d): %d", r, dim, e)
		}
		for _, x := range rows {
			insideIs(t, r, x.V, true, api.OK)
		}
	}
}

func TestBoxAndBallEdges(t *testing.T) {
	boxIs(t, []api.Row{row(api.MaxId, -top)}, 1, api.Region{Shape: api.ShapeBox, Lo: list(-top), Hi: list(-top), Ids: list(api.MaxId)}, api.OK)
	ballIs(t, list(top), []api.Row{row(1, -top)}, api.Region{Shape: api.ShapeBall, Lo: list(top), Radius: lo(18446744056529682436), Ids: list(1)}, api.OK)
	ballIs(t, list(7), []api.Row{row(1, 7)}, api.Region{Shape: api.ShapeBall, Lo: list(7), Ids: list(1)}, api.OK)
	for _, none := range [][]api.Row{nil, {}} {
		ballIs(t, list(7, 8), none, api.Region{Shape: api.ShapeBall, Lo: list(7, 8)}, api.OK)
	}
	if r, e := Box(many(512), 1); e != api.OK || len(r.Ids) != 512 || r.Lo[0] != 0 || r.Hi[0] != 511 {
		t.Errorf("P3.6: Box of 512 rows: %+v, %d", r, e)
	}
	if r, e := Ball(list(1), many(512)); e != api.OK || len(r.Ids) != 512 || r.Radius != lo(510*510) {
		t.Errorf("P3.6: Ball of 512 rows: %+v, %d", r, e)
	}
}

// The errors of rows, which Box and Ball share.
func TestRowErrors(t *testing.T) {
	spoilt := many(513)
	spoilt[0] = api.Row{}
	for i, x := range []struct {
		rows []api.Row
		e    api.Errno
	}{
		{many(513), api.ErrLong},
		{spoilt, api.ErrLong},
		{[]api.Row{row(0, 1)}, api.ErrFlatId},
		{[]api.Row{row(-1, 1)}, api.ErrFlatId},
		{[]api.Row{row(math.MinInt, 1)}, api.ErrFlatId},
		{[]api.Row{row(api.MaxId+1, 1)}, api.ErrFlatId},
		{[]api.Row{row(math.MaxInt, 1)}, api.ErrFlatId},
		{[]api.Row{row(1, 1), row(1, 1)}, api.ErrFlatId},
		{[]api.Row{row(1, 1), row(2, 1), row(1, 5)}, api.ErrFlatId},
		{[]api.Row{row(1)}, api.ErrVecDim},
		{[]api.Row{row(1, 1, 2)}, api.ErrVecDim},
		{[]api.Row{row(1, 1), row(2, top+1)}, api.ErrVecCoord},
		// Of one row the id comes first; of two rows the first one.
		{[]api.Row{row(0, top+1)}, api.ErrFlatId},
		{[]api.Row{row(1, 1), row(1)}, api.ErrFlatId},
		{[]api.Row{row(1, top+1), row(1, 1)}, api.ErrVecCoord},
		{[]api.Row{row(1), row(0, 1)}, api.ErrVecDim},
		{[]api.Row{row(1, 1), row(2, -top-1), row(3)}, api.ErrVecCoord},
	} {
		if r, e := Box(x.rows, 1); !sameRegion(r, api.Region{}) || e != x.e {
			t.Errorf("P3.6: rows %d: Box: %+v, %d", i, r, e)
		}
		if r, e := Ball(list(0), x.rows); !sameRegion(r, api.Region{}) || e != x.e {
			t.Errorf("P3.6: rows %d: Ball: %+v, %d", i, r, e)
		}
	}
}

func TestBoxAndBallDims(t *testing.T) {
	for _, dim := range list(math.MinInt, -1, 0, 65, math.MaxInt) {
		for _, rows := range [][]api.Row{nil, many(1), many(513), {row(0)}} {
			boxIs(t, rows, dim, api.Region{}, api.ErrVecDim)
		}
	}
	boxIs(t, nil, 1, api.Region{}, api.ErrArg)
	boxIs(t, []api.Row{}, 64, api.Region{}, api.ErrArg)
	for _, x := range []struct {
		centre []int
		e      api.Errno
	}{{nil, api.ErrVecDim}, {filled(65, 0), api.ErrVecDim}, {list(top + 1), api.ErrVecCoord}} {
		for _, rows := range [][]api.Row{nil, many(1), many(513), {row(0)}} {
			ballIs(t, x.centre, rows, api.Region{}, x.e)
		}
	}
}

// R2: what is handed in stays as it is, in its spare room, too, and what comes out shares none of it.
func TestMemory(t *testing.T) {
	first, second, centre := list(1, 5, 99), list(3, 2, 99), list(0, 0, 99)
	rows := []api.Row{{Id: 9, V: first[:2]}, {Id: 4, V: second[:2]}, {Id: 1}}
	b, _ := Box(rows[:2], 2)
	one, _ := Box(rows[:1], 2)
	c, _ := Ball(centre[:2], rows[:2])
	for _, l := range [][]int{b.Lo, b.Hi, b.Ids, one.Lo, c.Lo, c.Ids} {
		if len(l) == 0 {
			t.Fatal("P3.6: a list is missing")
		}
		l = l[:cap(l)]
		for i := range l {
			l[i] = -7
		}
	}
	if !slices.Equal(one.Hi, list(1, 5)) {
		t.Errorf("R2: Lo and Hi share memory: %v", one.Hi)
	}
	if !slices.Equal(first, list(1, 5, 99)) || !slices.Equal(second, list(3, 2, 99)) || !slices.Equal(centre, list(0, 0, 99)) {
		t.Errorf("R2: vectors were written into, or came out: %v, %v, %v", first, second, centre)
	}
	if rows[0].Id != 9 || rows[1].Id != 4 || rows[2].Id != 1 {
		t.Errorf("R2: rows were written into: %v", rows)
	}

	low, high, q, ids := list(0, 0), list(4, 4), list(9, -9), list(3, 8)
	r := api.Region{Shape: api.ShapeBox, Lo: low, Hi: high, Ids: ids}
	Inside(r, q)
	Bound(r, q)
	Dist(low, q)
	if !slices.Equal(low, list(0, 0)) || !slices.Equal(high, list(4, 4)) || !slices.Equal(q, list(9, -9)) || !slices.Equal(ids, list(3, 8)) {
		t.Errorf("R2: a region or a vector was written into: %+v, %v", r, q)
	}
}
