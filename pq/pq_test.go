package pq

import (
	"math"
	"math/big"
	"reflect"
	"slices"
	"testing"

	"theodolite/api"
	"theodolite/kmeans"
)

const top = api.MaxCoord

func lo(n uint64) api.Wide { return api.Wide{Lo: n} }

func nums(v ...int) []int { return v }

func wides(w ...api.Wide) []api.Wide { return w }

// filled is a vector of n coordinates, all x.
func filled(n, x int) []int { return slices.Repeat(nums(x), n) }

// many is n vectors of dimension dim: all 0, all 1 and so on.
func many(n, dim int) [][]int {
	var l [][]int
	for i := range n {
		l = append(l, filled(dim, i))
	}
	return l
}

// two are the vectors of the chapter's examples.
func two() [][]int { return [][]int{{0, 0}, {10, 10}} }

func seeds() []uint64 { return []uint64{0, 1, 2, 3, 7, 1 << 63, math.MaxUint64 - 1, math.MaxUint64} }

func sameBooks(a, b [][][]int) bool {
	return slices.EqualFunc(a, b, func(a, b [][]int) bool { return slices.EqualFunc(a, b, slices.Equal[[]int]) })
}

func trained(t *testing.T, l [][]int, dim, parts, codes, rounds int, seed uint64) *Coder {
	t.Helper()
	c, e := Train(l, dim, parts, codes, rounds, seed)
	if c == nil || e != api.OK {
		t.Fatalf("P10.1: Train of %d vectors, %d, %d, %d, %d, %d: %v, %d", len(l), dim, parts, codes, rounds, seed, c, e)
	}
	return c
}

func trainFails(t *testing.T, l [][]int, dim, parts, codes, rounds int, e api.Errno) {
	t.Helper()
	for _, seed := range []uint64{0, math.MaxUint64} {
		if c, got := Train(l, dim, parts, codes, rounds, seed); c != nil || got != e {
			t.Errorf("P10.1: Train of %d vectors, %d, %d, %d, %d, %d: %v, %d: want %d", len(l), dim, parts, codes, rounds, seed, c, got, e)
		}
	}
}

func booksAre(t *testing.T, c *Coder, want [][][]int) {
	t.Helper()
	if got := c.Books(); !sameBooks(got, want) {
		t.Fatalf("P10.1: Books: %v: want %v", got, want)
	}
}

func encodeIs(t *testing.T, c *Coder, v, want []int, e api.Errno) {
	t.Helper()
	if got, err := c.Encode(v); !slices.Equal(got, want) || err != e {
		t.Fatalf("P10.2: Encode(%v): %v, %d: want %v, %d", v, got, err, want, e)
	}
}

func decodeIs(t *testing.T, c *Coder, code, want []int, e api.Errno) {
	t.Helper()
	if got, err := c.Decode(code); !slices.Equal(got, want) || err != e {
		t.Fatalf("P10.3: Decode(%v): %v, %d: want %v, %d", code, got, err, want, e)
	}
}

func tableIs(t *testing.T, c *Coder, q []int, want [][]api.Wide, e api.Errno) {
	t.Helper()
	if got, err := c.Table(q); !slices.EqualFunc(got, want, slices.Equal[[]api.Wide]) || err != e {
		t.Fatalf("P10.4: Table(%v): %v, %d: want %v, %d", q, got, err, want, e)
	}
}

func estimateIs(t *testing.T, table [][]api.Wide, code []int, want api.Wide, e api.Errno) {
	t.Helper()
	if got, err := Estimate(table, code); got != want || err != e {
		t.Fatalf("P10.4: Estimate(%v, %v): %v, %d: want %v, %d", table, code, got, err, want, e)
	}
}

func encoded(t *testing.T, c *Coder, v []int) []int {
	t.Helper()
	code, e := c.Encode(v)
	if e != api.OK {
		t.Fatalf("P10.2: Encode(%v): %d", v, e)
	}
	return code
}

func decoded(t *testing.T, c *Coder, code []int) []int {
	t.Helper()
	v, e := c.Decode(code)
	if e != api.OK {
		t.Fatalf("P10.3: Decode(%v): %d", code, e)
	}
	return v
}

func tabled(t *testing.T, c *Coder, q []int) [][]api.Wide {
	t.Helper()
	table, e := c.Table(q)
	if e != api.OK {
		t.Fatalf("P10.4: Table(%v): %d", q, e)
	}
	return table
}

// plainParts cuts a vector anew, coordinate by coordinate.
func plainParts(v []int, parts int) [][]int {
	cut := make([][]int, parts)
	for i, x := range v {
		at := i * parts / len(v)
		cut[at] = append(cut[at], x)
	}
	return cut
}

// plainBooks says the books anew.
func plainBooks(t *testing.T, l [][]int, parts, codes, rounds int, seed uint64) [][][]int {
	t.Helper()
	var books [][][]int
	for i := range parts {
		var cut [][]int
		for _, v := range l {
			cut = append(cut, plainParts(v, parts)[i])
		}
		own := new(big.Int).Add(new(big.Int).SetUint64(seed), big.NewInt(int64(i)))
		own.Mod(own, new(big.Int).Lsh(big.NewInt(1), 64))
		book, e := kmeans.Train(cut, codes, rounds, own.Uint64())
		if e != api.OK {
			t.Fatalf("kmeans.Train: %d", e)
		}
		books = append(books, book)
	}
	return books
}

// plainDist says the distance anew, by numbers that have no end.
func plainDist(a, b []int) *big.Int {
	sum := new(big.Int)
	for i := range a {
		d := big.NewInt(int64(a[i]) - int64(b[i]))
		sum.Add(sum, d.Mul(d, d))
	}
	return sum
}

func asWide(n *big.Int) api.Wide {
	low := new(big.Int).And(n, new(big.Int).SetUint64(math.MaxUint64))
	return api.Wide{Hi: new(big.Int).Rsh(n, 64).Uint64(), Lo: low.Uint64()}
}

// source gives the same numbers in every run.
type source uint64

func (s *source) below(n int) int {
	*s ^= *s << 13
	*s ^= *s >> 7
	*s ^= *s << 17
	return int(uint64(*s) % uint64(n))
}

// vectors are n of dimension dim, all of them so near to nought that many parts are the same or as far as one another, or anywhere, or at the ends.
func (s *source) vectors(n, dim int) [][]int {
	var l [][]int
	how := s.below(4)
	for range n {
		v := make([]int, dim)
		for i := range v {
			switch how {
			case 0:
				v[i] = s.below(2*top+1) - top
			case 1:
				v[i] = nums(-top, top)[s.below(2)]
			case 2:
				v[i] = s.below(5) - 2
			default:
				v[i] = s.below(201) - 150
			}
		}
		l = append(l, v)
	}
	return l
}

// shapes are dimensions and parts that divide them, the ends among them.
func shapes() [][2]int {
	return [][2]int{{1, 1}, {2, 1}, {2, 2}, {6, 3}, {7, 7}, {8, 8}, {9, 3}, {10, 5}, {12, 6}, {60, 4}, {63, 7}, {64, 1}, {64, 8}}
}

// The chapter's table, line by line.
func TestExamples(t *testing.T) {
	for _, seed := range seeds() {
		c := trained(t, two(), 2, 2, 2, 20, seed)
		books := c.Books()
		for _, book := range books {
			if !reflect.DeepEqual(book, [][]int{{0}, {10}}) && !reflect.DeepEqual(book, [][]int{{10}, {0}}) {
				t.Errorf("P10.1: %v", books)
			}
		}
		decodeIs(t, c, encoded(t, c, nums(1, 9)), nums(0, 10), api.OK)
		decodeIs(t, c, encoded(t, c, nums(5, 6)), nums(books[0][0][0], 10), api.OK)
		estimateIs(t, tabled(t, c, nums(1, 9)), encoded(t, c, nums(0, 10)), lo(2), api.OK)
		decodeIs(t, c, nums(0), nil, api.ErrPqCode)
		decodeIs(t, c, nums(0, 2), nil, api.ErrPqCode)
	}
	trainFails(t, two(), 2, 3, 2, 20, api.ErrPqParts)
	trainFails(t, two(), 2, 2, 0, 20, api.ErrArg)
	trainFails(t, two()[:1], 2, 2, 2, 20, api.ErrMeansFew)
	estimateIs(t, nil, nil, lo(0), api.OK)
}

// P10.1: each book is what kmeans tells of that part alone, with a seed of its own.
func TestBooksAgainstPlain(t *testing.T) {
	s := source(362436069)
	for _, shape := range shapes() {
		dim, parts := shape[0], shape[1]
		for _, codes := range nums(1, 2, 5, 15, 16) {
			for _, rounds := range nums(0, 1, 3, 20) {
				l := s.vectors(codes+s.below(30), dim)
				for _, seed := range seeds() {
					want := plainBooks(t, l, parts, codes, rounds, seed)
					booksAre(t, trained(t, l, dim, parts, codes, rounds, seed), want)
				}
			}
		}
	}
}

// P10.1: the seed of a part behind the greatest number is 0, and so on.
func TestSeedBeginsAnew(t *testing.T) {
	l := many(40, 4)
	all := trained(t, l, 4, 4, 6, 0, math.MaxUint64-1).Books()
	for i, seed := range []uint64{math.MaxUint64 - 1, math.MaxUint64, 0, 1} {
		want, e := kmeans.Train(many(40, 1), 6, 0, seed)
		if e != api.OK || !reflect.DeepEqual(all[i], want) {
			t.Errorf("P10.1: book %d: %v: want %v", i, all[i], want)
		}
	}
	if reflect.DeepEqual(all[0], all[1]) {
		t.Errorf("P10.1: both parts draw alike: %v", all[0])
	}
}

func TestTrainEdges(t *testing.T) {
	for _, shape := range shapes() {
		dim, parts := shape[0], shape[1]
		for _, n := range nums(16, 17, 511, 512) {
			for _, rounds := range nums(0, 2) {
				c := trained(t, many(n, dim), dim, parts, 16, rounds, 7)
				if books := c.Books(); len(books) != parts || len(books[0]) != 16 || len(books[parts-1][15]) != dim/parts {
					t.Errorf("P10.1: of %d, %d: %v", dim, parts, books)
				}
			}
		}
		for _, x := range nums(-top, 0, top) {
			c := trained(t, [][]int{filled(dim, x)}, dim, parts, 1, 20, 7)
			encodeIs(t, c, filled(dim, -x), filled(parts, 0), api.OK)
			decodeIs(t, c, filled(parts, 0), filled(dim, x), api.OK)
		}
	}
}

// The dimension's error comes first, then the numbers', the parts', how many vectors there are, and the vectors'.
func TestTrainErrorsInOrder(t *testing.T) {
	spoilt := make([][]int, 513)
	groups := [][][]int{nil, {}, many(16, 6), many(512, 6), many(513, 6), spoilt, {filled(6, top+1)}, two()}
	wrong := nums(math.MinInt, -1, 21, 1<<32+1, math.MaxInt)
	for _, l := range groups {
		for _, dim := range nums(math.MinInt, -6, -1, 0, 65, 72, 1<<32+6, math.MaxInt) {
			trainFails(t, l, dim, 3, 2, 1, api.ErrVecDim)
			trainFails(t, l, dim, 0, 17, -1, api.ErrVecDim)
		}
		for _, dim := range nums(1, 6, 64) {
			for _, parts := range append(wrong, 0, 9) {
				trainFails(t, l, dim, parts, 2, 1, api.ErrArg)
				trainFails(t, l, dim, parts, 0, 21, api.ErrArg)
			}
			for _, parts := range nums(1, 5, 8) {
				for _, codes := range append(wrong, 0, 17) {
					trainFails(t, l, dim, parts, codes, 1, api.ErrArg)
				}
				for _, rounds := range wrong {
					trainFails(t, l, dim, parts, 16, rounds, api.ErrArg)
				}
			}
		}
		for _, x := range [][2]int{{6, 4}, {6, 5}, {6, 7}, {6, 8}, {1, 2}, {1, 8}, {64, 3}, {64, 7}, {63, 8}, {4, 8}} {
			trainFails(t, l, x[0], x[1], 2, 1, api.ErrPqParts)
			trainFails(t, l, x[0], x[1], 16, 0, api.ErrPqParts)
		}
	}
	for _, parts := range nums(1, 2, 3, 6) {
		trainFails(t, many(513, 6), 6, parts, 2, 1, api.ErrLong)
		trainFails(t, spoilt, 6, parts, 16, 1, api.ErrLong)
		trainFails(t, nil, 6, parts, 1, 0, api.ErrMeansFew)
		trainFails(t, [][]int{}, 6, parts, 16, 20, api.ErrMeansFew)
		trainFails(t, many(15, 6), 6, parts, 16, 20, api.ErrMeansFew)
		trainFails(t, spoilt[:15], 6, parts, 16, 20, api.ErrMeansFew)
		trainFails(t, spoilt[:16], 6, parts, 16, 20, api.ErrVecDim)
		trainFails(t, many(512, 5), 6, parts, 16, 20, api.ErrVecDim)
		trainFails(t, many(512, 7), 6, parts, 16, 20, api.ErrVecDim)
	}
}

// Vectors of dimension 2 that may not be, each with its error.
func wrongVectors() []struct {
	v []int
	e api.Errno
} {
	return []struct {
		v []int
		e api.Errno
	}{
		{nil, api.ErrVecDim}, {nums(), api.ErrVecDim}, {nums(1), api.ErrVecDim}, {nums(1, 2, 3), api.ErrVecDim}, {filled(65, 0), api.ErrVecDim},
		{nums(top + 1), api.ErrVecDim}, {nums(1, 2, top+1), api.ErrVecDim},
		{nums(0, top+1), api.ErrVecCoord}, {nums(-top-1, 0), api.ErrVecCoord}, {nums(math.MinInt, 0), api.ErrVecCoord}, {nums(0, math.MaxInt), api.ErrVecCoord},
	}
}

func TestWrongVectors(t *testing.T) {
	c := trained(t, two(), 2, 2, 2, 20, 3)
	for _, x := range wrongVectors() {
		encodeIs(t, c, x.v, nil, x.e)
		tableIs(t, c, x.v, nil, x.e)
		for at := range 5 {
			l := slices.Insert(many(4, 2), at, x.v)
			for _, parts := range nums(1, 2) {
				trainFails(t, l, 2, parts, 1, 0, x.e)
				trainFails(t, l, 2, parts, 5, 20, x.e)
				trainFails(t, l, 2, parts, 6, 20, api.ErrMeansFew)
			}
			for _, y := range wrongVectors() {
				trainFails(t, append(l, y.v), 2, 2, 1, 1, x.e)
			}
		}
	}
}

// P10.2: of several that are as near the first one counts, part by part.
func TestTies(t *testing.T) {
	for _, seed := range seeds() {
		c := trained(t, [][]int{{4, 4}, {4, 4}, {6, 6}}, 2, 2, 3, 0, seed)
		books := c.Books()
		want := make([]int, 2)
		for i, book := range books {
			want[i] = slices.IndexFunc(book, func(v []int) bool { return v[0] == 4 })
		}
		encodeIs(t, c, nums(4, 4), want, api.OK)
		encodeIs(t, c, nums(5, 5), nums(0, 0), api.OK)
	}
}

// What Encode, Decode and Table answer, said anew from the books alone.
func TestCodesAgainstPlain(t *testing.T) {
	s := source(521288629)
	for _, shape := range shapes() {
		dim, parts := shape[0], shape[1]
		for _, codes := range nums(1, 2, 7, 16) {
			l := s.vectors(codes+s.below(20), dim)
			c := trained(t, l, dim, parts, codes, s.below(4), uint64(s.below(math.MaxInt)))
			books := c.Books()
			for _, q := range append(s.vectors(10, dim), l...) {
				var code []int
				var table [][]api.Wide
				for i, part := range plainParts(q, parts) {
					var far []*big.Int
					var row []api.Wide
					for _, v := range books[i] {
						far = append(far, plainDist(part, v))
						row = append(row, asWide(plainDist(part, v)))
					}
					least := slices.MinFunc(far, (*big.Int).Cmp)
					code = append(code, slices.IndexFunc(far, func(d *big.Int) bool { return d.Cmp(least) == 0 }))
					table = append(table, row)
				}
				encodeIs(t, c, q, code, api.OK)
				tableIs(t, c, q, table, api.OK)
				drawn, v := make([]int, parts), nums()
				for i := range drawn {
					drawn[i] = s.below(codes)
					v = append(v, books[i][drawn[i]]...)
				}
				decodeIs(t, c, drawn, v, api.OK)
			}
		}
	}
}

func TestWrongCodes(t *testing.T) {
	for _, shape := range shapes() {
		dim, parts := shape[0], shape[1]
		for _, codes := range nums(1, 2, 16) {
			c := trained(t, many(16, dim), dim, parts, codes, 0, 7)
			table := tabled(t, c, filled(dim, 3))
			fails := func(code []int) {
				t.Helper()
				decodeIs(t, c, code, nil, api.ErrPqCode)
				estimateIs(t, table, code, lo(0), api.ErrPqCode)
			}
			fails(nil)
			fails(nums())
			fails(filled(parts-1, 0))
			fails(filled(parts+1, 0))
			fails(filled(dim+64, 0))
			for at := range parts {
				for _, wrong := range nums(math.MinInt, -1, codes, codes+1, 1<<32, math.MaxInt) {
					code := filled(parts, codes-1)
					decoded(t, c, code)
					code[at] = wrong
					fails(code)
				}
			}
		}
	}
}

// P10.4: any table may be asked, whatever its numbers and its lists' lengths.
func TestEstimate(t *testing.T) {
	most := api.Wide{Hi: math.MaxUint64, Lo: math.MaxUint64}
	for _, none := range [][][]api.Wide{nil, {}} {
		estimateIs(t, none, nil, lo(0), api.OK)
		estimateIs(t, none, nums(), lo(0), api.OK)
		estimateIs(t, none, nums(0), lo(0), api.ErrPqCode)
	}
	for _, empty := range [][]api.Wide{nil, {}} {
		estimateIs(t, [][]api.Wide{empty}, nums(0), lo(0), api.ErrPqCode)
		estimateIs(t, [][]api.Wide{empty}, nil, lo(0), api.ErrPqCode)
		estimateIs(t, [][]api.Wide{{most}, {most}, empty}, nums(0, 0, 0), lo(0), api.ErrPqCode)
	}
	table := [][]api.Wide{wides(lo(1)), wides(lo(10), most, lo(30)), wides(lo(100), lo(200), api.Wide{Hi: 5})}
	estimateIs(t, table, nums(0, 0, 0), lo(111), api.OK)
	estimateIs(t, table, nums(0, 2, 1), lo(231), api.OK)
	estimateIs(t, table, nums(0, 2, 2), api.Wide{Hi: 5, Lo: 31}, api.OK)
	estimateIs(t, table, nums(0, 1, 2), lo(0), api.ErrWide)
	estimateIs(t, table, nums(0, 1, 0), lo(0), api.ErrWide)
	// A place that there is not comes ahead of a sum that is too great.
	estimateIs(t, table, nums(0, 1, 3), lo(0), api.ErrPqCode)
	estimateIs(t, table, nums(0, 1, -1), lo(0), api.ErrPqCode)
	estimateIs(t, table, nums(1, 1, 0), lo(0), api.ErrPqCode)
	estimateIs(t, table, nums(0, 1), lo(0), api.ErrPqCode)
	estimateIs(t, table, nums(0, 1, 0, 0), lo(0), api.ErrPqCode)
	estimateIs(t, [][]api.Wide{wides(lo(0)), wides(most), wides(lo(0))}, nums(0, 0, 0), most, api.OK)
	estimateIs(t, [][]api.Wide{wides(api.Wide{Hi: math.MaxUint64}), wides(lo(math.MaxUint64))}, nums(0, 0), most, api.OK)
	estimateIs(t, [][]api.Wide{wides(lo(math.MaxUint64)), wides(lo(1))}, nums(0, 0), api.Wide{Hi: 1}, api.OK)
	estimateIs(t, [][]api.Wide{wides(most), wides(lo(1)), wides(lo(0))}, nums(0, 0, 0), lo(0), api.ErrWide)
	estimateIs(t, [][]api.Wide{wides(api.Wide{Hi: 1 << 63}), wides(api.Wide{Hi: 1 << 63})}, nums(0, 0), lo(0), api.ErrWide)
	var long [][]api.Wide
	for range 1000 {
		long = append(long, wides(lo(7), lo(math.MaxUint64)))
	}
	estimateIs(t, long, filled(1000, 0), lo(7000), api.OK)
	estimateIs(t, long, filled(1000, 1), asWide(new(big.Int).Mul(big.NewInt(1000), new(big.Int).SetUint64(math.MaxUint64))), api.OK)
}

// T1: the greatest distance that there is, which is beyond 64 bits.
func TestFarthest(t *testing.T) {
	for _, parts := range nums(1, 2, 4, 8) {
		c := trained(t, [][]int{filled(64, top)}, 64, parts, 1, 20, 7)
		estimateIs(t, tabled(t, c, filled(64, -top)), filled(parts, 0), asWide(plainDist(filled(64, top), filled(64, -top))), api.OK)
	}
}

// eachCode goes through all codes of so many parts.
func eachCode(parts, codes int, do func(code []int)) {
	code := make([]int, parts)
	for {
		do(code)
		i := 0
		for i < parts && code[i] == codes-1 {
			code[i] = 0
			i++
		}
		if i == parts {
			return
		}
		code[i]++
	}
}

// P10.5: estimates are distances, codes are steady, and no other code is nearer.
func TestWhatFollows(t *testing.T) {
	s := source(88172645463325252)
	for _, x := range [][3]int{{1, 1, 16}, {2, 2, 16}, {6, 3, 5}, {8, 8, 2}, {12, 4, 4}, {64, 2, 9}, {64, 8, 2}} {
		dim, parts, codes := x[0], x[1], x[2]
		for range 6 {
			l := s.vectors(codes+s.below(20), dim)
			c := trained(t, l, dim, parts, codes, s.below(4), uint64(s.below(math.MaxInt)))
			for _, q := range append(s.vectors(3, dim), l[:min(3, len(l))]...) {
				table, own := tabled(t, c, q), encoded(t, c, q)
				least := plainDist(q, decoded(t, c, own))
				eachCode(parts, codes, func(code []int) {
					v := decoded(t, c, code)
					far := plainDist(q, v)
					estimateIs(t, table, code, asWide(far), api.OK)
					if far.Cmp(least) < 0 {
						t.Fatalf("P10.5: %v is nearer to %v than its code %v", code, q, own)
					}
					decodeIs(t, c, encoded(t, c, v), v, api.OK)
				})
			}
		}
	}
}

// P10.5: with as many codes as vectors, and no rounds, each vector is said exactly.
func TestSaidExactly(t *testing.T) {
	s := source(2463534242)
	for _, shape := range shapes() {
		for n := 1; n <= 16; n++ {
			l := s.vectors(n, shape[0])
			c := trained(t, l, shape[0], shape[1], n, 0, uint64(n))
			for _, v := range l {
				code := encoded(t, c, v)
				decodeIs(t, c, code, v, api.OK)
				estimateIs(t, tabled(t, c, v), code, lo(0), api.OK)
			}
		}
	}
}

// R3: a nil coder, whatever else is wrong.
func TestNil(t *testing.T) {
	var c *Coder
	if books := c.Books(); len(books) != 0 {
		t.Errorf("R3: %v", books)
	}
	for _, v := range [][]int{nil, nums(), nums(1, 2), nums(-1), nums(top + 1), filled(65, 0)} {
		encodeIs(t, c, v, nil, api.ErrNil)
		decodeIs(t, c, v, nil, api.ErrNil)
		tableIs(t, c, v, nil, api.ErrNil)
	}
}

// R2: what is handed in is not written into, nor its spare room, and is not kept.
func TestNothingIsWrittenOrKept(t *testing.T) {
	room := func() [][]int {
		return [][]int{{0, 0, 0, 0, 77}, {9, 9, 1, 1, 77}, {5, 6, 7, 8, 77}, {1, 2, 3, 4, 77}, {88, 88, 88, 88, 88}}
	}
	full := room()
	var cut [][]int
	for _, v := range full {
		cut = append(cut, v[:4])
	}
	spare := slices.Clone(cut)
	for _, rounds := range nums(0, 5) {
		c := trained(t, cut[:4], 4, 2, 3, rounds, 7)
		books, q, code := c.Books(), nums(3, 4, 5, 6, 77), nums(1, 2, 77)
		table, same := tabled(t, c, q[:4]), tabled(t, c, q[:4])
		encoded(t, c, q[:4])
		decoded(t, c, code[:2])
		Estimate(table, code[:2])
		if !reflect.DeepEqual(full, room()) || !reflect.DeepEqual(cut, spare) || !reflect.DeepEqual(table, same) {
			t.Fatalf("R2: left behind: %v, %v, %v", full, cut, table)
		}
		if !slices.Equal(q, nums(3, 4, 5, 6, 77)) || !slices.Equal(code, nums(1, 2, 77)) {
			t.Fatalf("R2: left behind: %v, %v", q, code)
		}
		for i := range full {
			for j := range full[i] {
				full[i][j] = 1000 + i
			}
		}
		booksAre(t, c, books)
		for i, v := range room() {
			copy(full[i], v)
		}
	}
}

// spoil writes a number of its own into each list, and into its spare room, and tells whether all of them keep it.
func spoil(lists [][]int) bool {
	for i, l := range lists {
		for j := range l[:cap(l)] {
			l[:cap(l)][j] = -100 - i
		}
	}
	for i, l := range lists {
		for _, n := range l {
			if n != -100-i {
				return false
			}
		}
	}
	return true
}

// R2: what comes out is new memory, of which no two lists share any.
func TestAnswersAreNew(t *testing.T) {
	for _, parts := range nums(1, 2, 4) {
		c := trained(t, many(6, 4), 4, parts, 5, 1, 7)
		was, q := c.Books(), nums(1, 2, 3, 4)
		code := encoded(t, c, q)
		v := decoded(t, c, code)
		table := tabled(t, c, q)
		lists := [][]int{encoded(t, c, q), encoded(t, c, q), decoded(t, c, code), decoded(t, c, code)}
		books := c.Books()
		for _, book := range books {
			lists = append(lists, book...)
		}
		if !spoil(lists) {
			t.Fatalf("R2: two lists share memory")
		}
		other := tabled(t, c, q)
		for i, row := range other {
			for j := range row[:cap(row)] {
				row[:cap(row)][j] = lo(uint64(1000 + i))
			}
		}
		for i, row := range other {
			if slices.ContainsFunc(row, func(w api.Wide) bool { return w != lo(uint64(1000+i)) }) {
				t.Fatalf("R2: two lists of a table share memory: %v", other)
			}
		}
		for i, book := range books {
			for j := range book[:cap(book)] {
				book[:cap(book)][j] = nums(i)
			}
		}
		for i, book := range books {
			if slices.ContainsFunc(book, func(v []int) bool { return v[0] != i }) {
				t.Fatalf("R2: two books share memory: %v", books)
			}
		}
		booksAre(t, c, was)
		encodeIs(t, c, q, code, api.OK)
		decodeIs(t, c, code, v, api.OK)
		tableIs(t, c, q, table, api.OK)
	}
}

// R2: coders know nothing of one another, and calls that fail, or only ask, change nothing.
func TestCodersAreApart(t *testing.T) {
	c := trained(t, many(9, 2), 2, 2, 4, 3, 7)
	books, code, table := c.Books(), encoded(t, c, nums(3, 8)), tabled(t, c, nums(3, 8))
	other := trained(t, two(), 2, 1, 1, 3, 8)
	encodeIs(t, other, nums(3, 8), nums(0), api.OK)
	decodeIs(t, c, nums(9, 9), nil, api.ErrPqCode)
	encodeIs(t, c, nums(9), nil, api.ErrVecDim)
	tableIs(t, c, nums(9, top+1), nil, api.ErrVecCoord)
	again := trained(t, many(9, 2), 2, 2, 4, 3, 7)
	for _, x := range []*Coder{c, again} {
		booksAre(t, x, books)
		encodeIs(t, x, nums(3, 8), code, api.OK)
		tableIs(t, x, nums(3, 8), table, api.OK)
	}
}
