package router

import (
	"math"
	"slices"
	"strconv"
	"testing"

	"theodolite/api"
	"theodolite/backend"
	"theodolite/cert"
	"theodolite/factory"
	"theodolite/flat"
)

const top = api.MaxCoord

// spec is what the text says.
func spec(t *testing.T, text string) api.Spec {
	t.Helper()
	s, e := factory.Parse(text)
	if e != api.OK {
		t.Fatalf("%q is no spec: %d", text, e)
	}
	return s
}

func specs(t *testing.T, texts ...string) []api.Spec {
	t.Helper()
	var l []api.Spec
	for _, text := range texts {
		l = append(l, spec(t, text))
	}
	return l
}

func numbers(from, to int) []int {
	var l []int
	for n := from; n <= to; n++ {
		l = append(l, n)
	}
	return l
}

func fast(k, budget int, v ...int) api.Query {
	return api.Query{V: v, K: k, Mode: api.ModeFast, Budget: budget}
}

func exact(k int, v ...int) api.Query {
	return api.Query{V: v, K: k, Mode: api.ModeExact}
}

// binaryDigits is how many digits n has in the binary system, by writing them.
func binaryDigits(n int) int {
	if n == 0 {
		return 0
	}
	return len(strconv.FormatInt(int64(n), 2))
}

// shares is the least number of shares of at most size that make n.
func shares(n, size int) int {
	count := 0
	for ; n > 0; n -= size {
		count++
	}
	return count
}

// plainCost is the chapter's table, line by line, of a spec that may be.
func plainCost(s api.Spec, n, dim int) int {
	g := binaryDigits(n)
	switch s.Kind {
	case api.KindKd:
		return dim * min(n, 2*s.Size*g)
	case api.KindVp:
		return dim * min(n, 3*s.Size*g)
	case api.KindIvf:
		return dim * (s.Size + shares(2*n, s.Size))
	case api.KindPq:
		return dim*(s.Size+s.Codes+16) + s.Parts*shares(n, s.Size)
	case api.KindHnsw:
		return dim * min(n, 4*s.Size*g)
	}
	return dim * n
}

// plainPrice is plainCost with what P15.2 adds to it.
func plainPrice(s api.Spec, n, dim int, mode api.Mode) int {
	cost := plainCost(s, n, dim)
	if mode == api.ModeExact && (s.Kind == api.KindPq || s.Kind == api.KindHnsw) {
		cost += dim * n
	}
	return cost
}

func costIs(t *testing.T, s api.Spec, rows, dim, want int, wrong api.Errno) {
	t.Helper()
	if n, e := Cost(s, rows, dim); n != want || e != wrong {
		t.Errorf("P15.1: Cost(%v, %d, %d): %d, %d: want %d, %d", s, rows, dim, n, e, want, wrong)
	}
}

func chooseIs(t *testing.T, l []api.Spec, rows, dim, k int, mode api.Mode, want int, wrong api.Errno) {
	t.Helper()
	if n, e := Choose(l, rows, dim, k, mode); n != want || e != wrong {
		t.Errorf("P15.2: Choose(%v, %d, %d, %d, %d): %d, %d: want %d, %d", l, rows, dim, k, mode, n, e, want, wrong)
	}
}

func budgetIs(t *testing.T, s api.Spec, rows int, q api.Query, want int, wrong api.Errno) {
	t.Helper()
	if n, e := Budget(s, rows, q); n != want || e != wrong {
		t.Errorf("P15.3: Budget(%v, %d, %v): %d, %d: want %d, %d", s, rows, q, n, e, want, wrong)
	}
}

func checkIs(t *testing.T, q api.Query, dim int, want api.Errno) {
	t.Helper()
	if e := Check(q, dim); e != want {
		t.Errorf("P15.4: Check(%v, %d): %d: want %d", q, dim, e, want)
	}
}

// The chapter's table, line by line.
func TestExamples(t *testing.T) {
	costIs(t, spec(t, "Flat"), 100, 4, 400, api.OK)
	costIs(t, spec(t, "KD2"), 100, 4, 112, api.OK)
	costIs(t, spec(t, "IVF8,Flat"), 100, 4, 132, api.OK)
	costIs(t, spec(t, "IVF8,PQ2x4"), 100, 4, 138, api.OK)
	costIs(t, spec(t, "HNSW2"), 0, 4, 0, api.OK)
	costIs(t, spec(t, "KD2"), 513, 4, 0, api.ErrArg)
	l := specs(t, "Flat", "KD2", "HNSW1")
	chooseIs(t, l, 100, 4, 3, api.ModeFast, 1, api.OK)
	chooseIs(t, l, 100, 4, 3, api.ModeExact, 1, api.OK)
	chooseIs(t, nil, 100, 4, 3, api.ModeFast, 0, api.ErrArg)
	budgetIs(t, spec(t, "Flat"), 100, fast(3, 7, 1, 2), 7, api.OK)
	budgetIs(t, spec(t, "Flat"), 100, exact(3, 1, 2), 100, api.OK)
	checkIs(t, api.Query{V: []int{1}, K: 1, Mode: api.ModeExact, Budget: 1}, 1, api.ErrArg)
	checkIs(t, api.Query{V: []int{1}, K: 1, Mode: 3}, 1, api.ErrEngineMode)
}

// Each kind by hand, where n is the smaller, where it is not, where a division leaves something, and at the limits.
func TestCostByHand(t *testing.T) {
	for _, x := range []struct {
		text            string
		rows, dim, want int
	}{
		{"Flat", 0, 64, 0}, {"Flat", 1, 1, 1}, {"Flat", 512, 64, 32768},
		{"KD1", 0, 1, 0}, {"KD1", 1, 1, 1}, {"KD1", 7, 1, 6}, {"KD1", 8, 1, 8}, {"KD1", 15, 1, 8}, {"KD1", 16, 1, 10},
		{"KD1", 511, 3, 54}, {"KD1", 512, 3, 60}, {"KD64", 512, 64, 32768},
		{"VP1", 9, 1, 9}, {"VP1", 13, 1, 12}, {"VP2", 100, 4, 168}, {"VP64", 512, 64, 32768},
		{"IVF1,Flat", 0, 1, 1}, {"IVF1,Flat", 10, 1, 21}, {"IVF7,Flat", 10, 2, 20}, {"IVF64,Flat", 512, 64, 5120}, {"IVF64,Flat", 1, 1, 65},
		{"IVF1,PQ1x1", 0, 1, 18}, {"IVF3,PQ2x5", 10, 2, 56}, {"IVF64,PQ8x16", 512, 64, 6208}, {"IVF1,PQ8x16", 512, 64, 6208}, {"IVF64,PQ8x1", 1, 1, 89},
		{"HNSW1", 100, 4, 112}, {"HNSW1", 15, 1, 15}, {"HNSW1", 31, 1, 20}, {"HNSW16", 512, 64, 32768}, {"HNSW2", 512, 1, 80},
	} {
		costIs(t, spec(t, x.text), x.rows, x.dim, x.want, api.OK)
	}
}

// simpleSpecs are all specs that may be, but for those of KindPq.
func simpleSpecs() []api.Spec {
	l := []api.Spec{{Kind: api.KindFlat}}
	for _, k := range []api.Kind{api.KindKd, api.KindVp, api.KindIvf} {
		for _, n := range numbers(1, 64) {
			l = append(l, api.Spec{Kind: k, Size: n})
		}
	}
	for _, n := range numbers(1, 16) {
		l = append(l, api.Spec{Kind: api.KindHnsw, Size: n})
	}
	return l
}

// codedSpecs are all specs of KindPq.
func codedSpecs() []api.Spec {
	var l []api.Spec
	for _, n := range numbers(1, 64) {
		for _, p := range numbers(1, 8) {
			for _, c := range numbers(1, 16) {
				l = append(l, api.Spec{Kind: api.KindPq, Size: n, Parts: p, Codes: c})
			}
		}
	}
	return l
}

// All rows of all specs, held against the table; more rows never cost less: P15.1, P15.5.
func TestCostOfAll(t *testing.T) {
	costsRise := func(s api.Spec, dim int) {
		last := 0
		for _, n := range numbers(0, 512) {
			cost, e := Cost(s, n, dim)
			if want := plainCost(s, n, dim); cost != want || e != api.OK {
				t.Fatalf("P15.1: Cost(%v, %d, %d): %d, %d: want %d", s, n, dim, cost, e, want)
			}
			if cost < last || cost > api.MaxCost {
				t.Fatalf("P15.5: Cost(%v, %d, %d): %d behind %d", s, n, dim, cost, last)
			}
			last = cost
		}
	}
	for _, s := range simpleSpecs() {
		for _, dim := range numbers(1, 64) {
			costsRise(s, dim)
		}
	}
	for i, s := range codedSpecs() {
		costsRise(s, 1+i%64)
	}
}

// A spec that may not be comes ahead of rows and dimension that may not be.
func TestCostErrors(t *testing.T) {
	wrong := []int{math.MinInt, -1, 513, 1 << 32, math.MaxInt}
	for _, s := range append(simpleSpecs(), spec(t, "IVF8,PQ2x4")) {
		for _, n := range wrong {
			costIs(t, s, n, 4, 0, api.ErrArg)
			costIs(t, s, n, 0, 0, api.ErrArg)
		}
		for _, dim := range []int{math.MinInt, -1, 0, 65, 1<<32 + 1, math.MaxInt} {
			costIs(t, s, 4, dim, 0, api.ErrArg)
		}
	}
	for _, n := range append(wrong, 0, 512) {
		for _, k := range []api.Kind{math.MinInt, -1, 0, 7, 9, math.MaxInt} {
			costIs(t, api.Spec{Kind: k, Size: n}, n, n, 0, api.ErrSpecForm)
		}
		for _, s := range wrongNumbers() {
			costIs(t, s, n, n, 0, api.ErrSpecNum)
			costIs(t, s, 4, 4, 0, api.ErrSpecNum)
		}
	}
}

// wrongNumbers are specs of all kinds whose numbers may not be, 0 lists among them, by which nothing can be divided.
func wrongNumbers() []api.Spec {
	return []api.Spec{{Kind: api.KindFlat, Size: 1}, {Kind: api.KindKd}, {Kind: api.KindKd, Size: 65}, {Kind: api.KindVp, Size: -1}, {Kind: api.KindVp, Size: math.MaxInt},
		{Kind: api.KindIvf}, {Kind: api.KindIvf, Size: 1, Parts: 1}, {Kind: api.KindPq, Parts: 1, Codes: 1}, {Kind: api.KindPq, Size: 1, Parts: 9, Codes: 1},
		{Kind: api.KindPq, Size: 1, Parts: 1, Codes: 17}, {Kind: api.KindPq, Size: 1, Parts: 1}, {Kind: api.KindHnsw}, {Kind: api.KindHnsw, Size: 17}}
}

// Of several that cost the same the first is chosen, in whatever order they stand.
func TestChooseFirst(t *testing.T) {
	chooseIs(t, specs(t, "Flat", "HNSW1", "KD2"), 100, 4, 3, api.ModeFast, 1, api.OK)
	chooseIs(t, specs(t, "KD2", "HNSW1", "Flat"), 100, 4, 3, api.ModeFast, 0, api.OK)
	chooseIs(t, specs(t, "Flat", "Flat", "Flat"), 100, 4, 3, api.ModeFast, 0, api.OK)
	chooseIs(t, specs(t, "KD64", "VP64", "HNSW16", "Flat"), 5, 64, 1, api.ModeFast, 0, api.OK)
	chooseIs(t, specs(t, "IVF1,Flat", "Flat", "KD1"), 0, 64, 1, api.ModeExact, 1, api.OK)
	chooseIs(t, specs(t, "Flat"), 512, 64, 64, api.ModeExact, 0, api.OK)
	chooseIs(t, slices.Repeat(specs(t, "Flat"), 16), 512, 64, 64, api.ModeExact, 0, api.OK)
	chooseIs(t, append(slices.Repeat(specs(t, "Flat"), 15), spec(t, "KD1")), 512, 64, 64, api.ModeExact, 15, api.OK)
}

// Who demands exactness pays for all rows, where an index must look at them: 100 rows of dimension 4 are 400 more.
func TestChooseExact(t *testing.T) {
	// 112 for HNSW1, 138 for IVF8,PQ2x4, 132 for IVF8,Flat, 400 for Flat, 168 for VP2.
	for _, text := range []string{"HNSW1", "IVF8,PQ2x4"} {
		l := specs(t, text, "Flat")
		chooseIs(t, l, 100, 4, 3, api.ModeFast, 0, api.OK)
		chooseIs(t, l, 100, 4, 3, api.ModeExact, 1, api.OK)
	}
	for _, text := range []string{"KD2", "VP2", "IVF8,Flat"} {
		l := specs(t, "Flat", text)
		chooseIs(t, l, 100, 4, 3, api.ModeFast, 1, api.OK)
		chooseIs(t, l, 100, 4, 3, api.ModeExact, 1, api.OK)
	}
	// Both cost 400 more, so the cheaper one stays cheaper.
	chooseIs(t, specs(t, "IVF8,PQ2x4", "HNSW1"), 100, 4, 3, api.ModeExact, 1, api.OK)
	// 26 rows of dimension 1: HNSW1 costs 20, and 46 with all rows; IVF1,Flat costs 53, IVF2,Flat 28.
	chooseIs(t, specs(t, "IVF1,Flat", "HNSW1"), 26, 1, 1, api.ModeExact, 1, api.OK)
	chooseIs(t, specs(t, "IVF2,Flat", "HNSW1"), 26, 1, 1, api.ModeExact, 0, api.OK)
	chooseIs(t, specs(t, "IVF2,Flat", "HNSW1"), 26, 1, 1, api.ModeFast, 1, api.OK)
}

// The errors in the order in which P15.2 names them.
func TestChooseErrors(t *testing.T) {
	one, seventeen := specs(t, "Flat"), slices.Repeat(specs(t, "Flat"), 17)
	bad := []api.Spec{{Kind: 9}}
	chooseIs(t, nil, -1, 0, 0, 0, 0, api.ErrArg)
	chooseIs(t, []api.Spec{}, 1, 1, 1, 9, 0, api.ErrArg)
	chooseIs(t, seventeen, -1, 0, 0, 0, 0, api.ErrLong)
	chooseIs(t, slices.Repeat(bad, 17), 1, 1, 1, api.ModeFast, 0, api.ErrLong)
	for _, k := range []int{math.MinInt, -1, 0, 65, 1<<32 + 1, math.MaxInt} {
		chooseIs(t, one, 1, 1, k, api.ModeFast, 0, api.ErrArg)
		chooseIs(t, bad, 1, 1, k, 9, 0, api.ErrArg)
	}
	for _, m := range []api.Mode{math.MinInt, -1, 0, 3, 1<<32 + 1, math.MaxInt} {
		chooseIs(t, one, 1, 1, 1, m, 0, api.ErrEngineMode)
		chooseIs(t, bad, -1, 0, 64, m, 0, api.ErrEngineMode)
	}
	for _, m := range []api.Mode{api.ModeExact, api.ModeFast} {
		for _, s := range wrongNumbers() {
			chooseIs(t, []api.Spec{s}, 1, 1, 1, m, 0, api.ErrSpecNum)
			chooseIs(t, append(specs(t, "Flat", "KD1"), s, bad[0]), 1, 1, 1, m, 0, api.ErrSpecNum)
		}
		chooseIs(t, append(specs(t, "Flat", "HNSW1"), bad[0], wrongNumbers()[0]), 1, 1, 1, m, 0, api.ErrSpecForm)
		for _, n := range []int{math.MinInt, -1, 513, math.MaxInt} {
			chooseIs(t, specs(t, "HNSW1", "KD1"), n, 1, 1, m, 0, api.ErrArg)
			chooseIs(t, append(bad, one...), n, 1, 1, m, 0, api.ErrSpecForm)
			// Spec by spec: the first one's rows come ahead of the second one's kind.
			chooseIs(t, append(slices.Clone(one), bad...), n, 1, 1, m, 0, api.ErrArg)
		}
		for _, dim := range []int{math.MinInt, -1, 0, 65, math.MaxInt} {
			chooseIs(t, specs(t, "IVF1,PQ1x1", "KD1"), 1, dim, 1, m, 0, api.ErrArg)
		}
	}
}

// drawn is a stream of numbers that the seed tells.
func drawn(seed uint64) func(int) int {
	return func(n int) int {
		seed = seed*6364136223846793005 + 1442695040888963407
		return int((seed >> 33) % uint64(n))
	}
}

// drawnSpec is a spec of whatever kind.
func drawnSpec(draw func(int) int) api.Spec {
	k := api.Kind(1 + draw(6))
	switch k {
	case api.KindFlat:
		return api.Spec{Kind: k}
	case api.KindPq:
		return api.Spec{Kind: k, Size: 1 + draw(64), Parts: 1 + draw(8), Codes: 1 + draw(16)}
	case api.KindHnsw:
		return api.Spec{Kind: k, Size: 1 + draw(16)}
	}
	return api.Spec{Kind: k, Size: 1 + draw(64)}
}

// The chosen one is no dearer than any other, and dearer than none ahead of it; one more is chosen only if it is cheaper than all: P15.2, P15.5.
func TestChooseCheapest(t *testing.T) {
	draw := drawn(15)
	for range 20000 {
		rows, dim, k := draw(513), 1+draw(64), 1+draw(64)
		mode := api.Mode(1 + draw(2))
		var l []api.Spec
		before := 0
		for i := range 16 {
			l = append(l, drawnSpec(draw))
			place, e := Choose(l, rows, dim, k, mode)
			if e != api.OK || place < 0 || place > i {
				t.Fatalf("P15.2: Choose of %d: %d, %d", i+1, place, e)
			}
			price := plainPrice(l[place], rows, dim, mode)
			for j, s := range l {
				if other := plainPrice(s, rows, dim, mode); other < price || other == price && j < place {
					t.Fatalf("P15.5: %v costs %d, but %v costs %d (%d rows of dimension %d, mode %d)", l[place], price, s, other, rows, dim, mode)
				}
			}
			if i > 0 && place != before && place != i {
				t.Fatalf("P15.5: with one more at %d, %d is chosen in place of %d", i, place, before)
			}
			before = place
		}
	}
}

// How many hits are asked for changes no choice; the specs are not written into, nor their spare room: R2.
func TestChooseLeavesAlone(t *testing.T) {
	l := specs(t, "HNSW1", "Flat", "IVF8,PQ2x4", "KD2")
	given := l[:3]
	kept := slices.Clone(l)
	for _, k := range numbers(1, 64) {
		chooseIs(t, given, 100, 4, k, api.ModeFast, 0, api.OK)
		chooseIs(t, given, 100, 4, k, api.ModeExact, 1, api.OK)
	}
	if !slices.Equal(l, kept) {
		t.Errorf("R2: the specs became %v", l)
	}
}

// No budget is above the rows: P15.3, P15.5.
func TestBudgetBounds(t *testing.T) {
	for _, s := range append(simpleSpecs(), spec(t, "IVF8,PQ3x4")) {
		for _, n := range []int{0, 1, 2, 99, 511, 512} {
			budgetIs(t, s, n, exact(1, 5), n, api.OK)
			budgetIs(t, s, n, exact(64, -top, top), n, api.OK)
			for _, b := range []int{0, 1, 2, 98, 99, 100, 511, 512, 513, 1000000} {
				budgetIs(t, s, n, fast(1, b, 5), min(n, b), api.OK)
			}
		}
	}
	budgetIs(t, spec(t, "KD1"), 512, fast(64, 300, slices.Repeat([]int{top}, 64)...), 300, api.OK)
}

// The errors in the order in which P15.3 names them.
func TestBudgetErrors(t *testing.T) {
	good, bad := fast(1, 1, 1), api.Query{}
	for _, q := range []api.Query{good, bad} {
		for _, n := range []int{-1, 0, 5, 513} {
			budgetIs(t, api.Spec{Kind: 9}, n, q, 0, api.ErrSpecForm)
			budgetIs(t, api.Spec{}, n, q, 0, api.ErrSpecForm)
			for _, s := range wrongNumbers() {
				budgetIs(t, s, n, q, 0, api.ErrSpecNum)
			}
		}
		for _, n := range []int{math.MinInt, -1, 513, math.MaxInt} {
			budgetIs(t, spec(t, "Flat"), n, q, 0, api.ErrArg)
		}
	}
	s := spec(t, "IVF8,PQ2x4")
	budgetIs(t, s, 5, bad, 0, api.ErrVecDim)
	budgetIs(t, s, 5, fast(1, 1, make([]int, 65)...), 0, api.ErrVecDim)
	budgetIs(t, s, 5, fast(1, 1, 0, top+1), 0, api.ErrVecCoord)
	budgetIs(t, s, 5, fast(0, 1, 1), 0, api.ErrArg)
	budgetIs(t, s, 5, fast(1, -1, 1), 0, api.ErrArg)
	budgetIs(t, s, 5, fast(1, 1000001, 1), 0, api.ErrArg)
	budgetIs(t, s, 5, api.Query{V: []int{1}, K: 1, Mode: api.ModeExact, Budget: 1}, 0, api.ErrArg)
	budgetIs(t, s, 5, api.Query{V: []int{1}, K: 1, Budget: 1}, 0, api.ErrEngineMode)
}

// Each field of a question at its bounds, the others being right.
func TestCheckBounds(t *testing.T) {
	for k, want := range map[int]api.Errno{math.MinInt: api.ErrArg, -1: api.ErrArg, 0: api.ErrArg, 1: api.OK, 2: api.OK, 64: api.OK, 65: api.ErrArg, math.MaxInt: api.ErrArg} {
		checkIs(t, exact(k, 1, 2), 2, want)
		checkIs(t, fast(k, 9, 1, 2), 2, want)
	}
	for b, want := range map[int]api.Errno{math.MinInt: api.ErrArg, -1: api.ErrArg, 0: api.OK, 1: api.OK, 512: api.OK, 513: api.OK, 1000000: api.OK, 1000001: api.ErrArg, math.MaxInt: api.ErrArg} {
		checkIs(t, fast(3, b, 1, 2), 2, want)
		if b != 0 {
			want = api.ErrArg
		}
		checkIs(t, api.Query{V: []int{1, 2}, K: 3, Mode: api.ModeExact, Budget: b}, 2, want)
	}
	for m, want := range map[api.Mode]api.Errno{math.MinInt: api.ErrEngineMode, -1: api.ErrEngineMode, 0: api.ErrEngineMode, 1: api.OK, 2: api.OK, 3: api.ErrEngineMode, math.MaxInt: api.ErrEngineMode} {
		checkIs(t, api.Query{V: []int{1, 2}, K: 3, Mode: m}, 2, want)
	}
	for x, want := range map[int]api.Errno{-top - 1: api.ErrVecCoord, -top: api.OK, 0: api.OK, top: api.OK, top + 1: api.ErrVecCoord, math.MinInt: api.ErrVecCoord, math.MaxInt: api.ErrVecCoord} {
		checkIs(t, exact(1, x), 1, want)
		checkIs(t, fast(1, 1, 0, 0, x), 3, want)
	}
	for n := range 67 {
		for _, dim := range []int{math.MinInt, -1, 0, 1, 2, n, 63, 64, 65, math.MaxInt} {
			want := api.ErrVecDim
			if n == dim && n >= 1 && n <= 64 {
				want = api.OK
			}
			checkIs(t, exact(1, make([]int, n)...), dim, want)
			checkIs(t, fast(1, 1, make([]int, n)...), dim, want)
		}
	}
}

// The errors in the order in which P15.4 names them: with each fault, all later ones are there, too.
func TestCheckOrder(t *testing.T) {
	checkIs(t, api.Query{V: []int{top + 1}, K: 0, Mode: 9, Budget: -1}, 2, api.ErrVecDim)
	checkIs(t, api.Query{V: []int{top + 1}, K: 0, Mode: 9, Budget: -1}, 1, api.ErrVecCoord)
	checkIs(t, api.Query{V: []int{top}, K: 65, Mode: 9, Budget: -1}, 1, api.ErrArg)
	checkIs(t, api.Query{V: []int{top}, K: 64, Mode: 9, Budget: -1}, 1, api.ErrEngineMode)
	checkIs(t, api.Query{V: []int{top}, K: 64, Mode: 9, Budget: 1000001}, 1, api.ErrEngineMode)
	checkIs(t, api.Query{V: []int{top}, K: 64, Mode: api.ModeFast, Budget: -1}, 1, api.ErrArg)
	checkIs(t, api.Query{}, 0, api.ErrVecDim)
}

// A question is not written into: R2.
func TestQueryLeftAlone(t *testing.T) {
	room := []int{3, -4, 5, 6}
	q := fast(2, 9, room[:2]...)
	checkIs(t, q, 2, api.OK)
	budgetIs(t, spec(t, "KD2"), 7, q, 7, api.OK)
	if !slices.Equal(room, []int{3, -4, 5, 6}) || q.K != 2 || q.Mode != api.ModeFast || q.Budget != 9 {
		t.Errorf("R2: the question became %v, its room %v", q, room)
	}
}

// drawnRows are n rows of dimension 4, some of which lie on one another.
func drawnRows(draw func(int) int, n int) []api.Row {
	var rows []api.Row
	for i := range n {
		rows = append(rows, api.Row{Id: 1 + 3*i, V: []int{draw(9), draw(9), draw(9), draw(9)}})
	}
	return rows
}

// With the budget that is told, whichever spec is chosen, who demands exactness gets the first k, and nobody looks at more rows than he may: T3, T4.
func TestBudgetsInUse(t *testing.T) {
	l := specs(t, "Flat", "KD2", "VP3", "IVF4,Flat", "IVF4,PQ2x4", "HNSW3")
	draw := drawn(3)
	for _, n := range []int{0, 1, 5, 60} {
		rows := drawnRows(draw, n)
		for _, s := range l {
			index, e := backend.Build(s, 4, rows, 7)
			if e != api.OK {
				t.Fatalf("Build(%v): %d", s, e)
			}
			for _, q := range []api.Query{exact(3, 1, 2, 3, 4), fast(3, 0, 1, 2, 3, 4), fast(3, 4, 1, 2, 3, 4), fast(3, 1000000, 1, 2, 3, 4)} {
				budget, e := Budget(s, n, q)
				if e != api.OK || budget > n {
					t.Fatalf("P15.5: Budget(%v, %d, %v): %d, %d", s, n, q, budget, e)
				}
				answer, e := index.Search(q.V, q.K, budget)
				if e != api.OK || len(answer.Seen) > budget {
					t.Fatalf("T4: %v saw %d rows of %d: %d", s, len(answer.Seen), budget, e)
				}
				sure, _ := cert.Certain(rows, q.V, q.K, answer)
				first, _ := flat.TopK(rows, q.V, q.K)
				if budget == n && (!sure || !slices.Equal(answer.Hits, first)) {
					t.Errorf("T3: %v over %d rows, asked %v: %v: want %v", s, n, q, answer.Hits, first)
				}
			}
		}
	}
}
