package rand

import (
	"math"
	"math/big"
	"slices"
	"testing"

	"theodolite/api"
)

const step = 0x9e3779b97f4a7c15

var wrongSizes = []int{math.MinInt, math.MinInt32, -2, -1, math.MaxInt32, 1 << 32, 1<<32 + 1, math.MaxInt - 1, math.MaxInt}

// oracle says P4.1 anew, in numbers without an end of which all above 64 bits is thrown away.
type oracle struct{ state *big.Int }

func oracleOf(seed uint64) *oracle { return &oracle{new(big.Int).SetUint64(seed)} }

func hexadecimal(digits string) *big.Int {
	n, ok := new(big.Int).SetString(digits, 16)
	if !ok {
		panic("no number: " + digits)
	}
	return n
}

func cut(n *big.Int) *big.Int { return n.Mod(n, new(big.Int).Lsh(big.NewInt(1), 64)) }

func laidOver(n *big.Int, bits uint) *big.Int {
	return new(big.Int).Xor(n, new(big.Int).Rsh(n, bits))
}

func (o *oracle) next() uint64 {
	o.state = cut(new(big.Int).Add(o.state, hexadecimal("9e3779b97f4a7c15")))
	z := laidOver(o.state, 30)
	z = cut(z.Mul(z, hexadecimal("bf58476d1ce4e5b9")))
	z = laidOver(z, 27)
	z = cut(z.Mul(z, hexadecimal("94d049bb133111eb")))
	return laidOver(z, 31).Uint64()
}

func (o *oracle) below(n int) int {
	z := new(big.Int).SetUint64(o.next())
	return int(z.Mod(z, big.NewInt(int64(n))).Int64())
}

func (o *oracle) level(most int) int {
	z, noughts := o.next(), 0
	for noughts < 64 && z>>noughts&1 == 0 {
		noughts++
	}
	level := 0
	for 2*(level+1) <= noughts && level < most {
		level++
	}
	return level
}

func (o *oracle) perm(n int) []int {
	var l []int
	for i := 0; i < n; i++ {
		l = append(l, i)
	}
	for i := n - 1; i >= 1; i-- {
		k := o.below(i + 1)
		l[i], l[k] = l[k], l[i]
	}
	return l
}

// seedFor tells the seed of a source whose first draw is z: Next's steps, backward.
func seedFor(z uint64) uint64 {
	z = liftedOff(z, 31) * inverse(0x94d049bb133111eb)
	z = liftedOff(z, 27) * inverse(0xbf58476d1ce4e5b9)
	return liftedOff(z, 30) - step
}

func liftedOff(n uint64, bits int) uint64 {
	z := n
	for at := bits; at < 64; at += bits {
		z = n ^ z>>bits
	}
	return z
}

func inverse(odd uint64) uint64 {
	x := odd
	for range 6 {
		x *= 2 - odd*x
	}
	return x
}

var someSeeds = []uint64{0, 1, 2, 3, 5, 7, 1234567, 1<<32 - 1, 1 << 32, 1<<63 - 1, 1 << 63, math.MaxUint64 - 1, math.MaxUint64, step, math.MaxUint64 - step, math.MaxUint64 - step + 1}

// sameState asks two sources for what they draw next, without drawing from them.
func sameState(t *testing.T, what string, a, b *Source) {
	t.Helper()
	if v, w := a.Clone().Next(), b.Clone().Next(); v != w {
		t.Fatalf("%s: the next draw is %x, want %x", what, v, w)
	}
}

// The chapter's table, line by line.
func TestExamples(t *testing.T) {
	s := New(0)
	for i, want := range []uint64{0xe220a8397b1dcdaf, 0x6e789e6aa1b965f4} {
		if v := s.Next(); v != want {
			t.Errorf("P4.1: New(0), Next number %d: %x, want %x", i+1, v, want)
		}
	}
	s = New(0)
	for _, c := range []struct {
		n, want int
		e       api.Errno
	}{{10, 5, api.OK}, {0, 0, api.ErrArg}, {7, 1, api.OK}} {
		if v, e := s.Below(c.n); v != c.want || e != c.e {
			t.Errorf("P4.2: Below(%d): %d, %d, want %d, %d", c.n, v, e, c.want, c.e)
		}
	}
	s = New(0)
	if v, e := s.Level(30); v != 0 || e != api.OK {
		t.Errorf("P4.3: Level(30): %d, %d", v, e)
	}
	if v, e := s.Level(-1); v != 0 || e != api.ErrArg {
		t.Errorf("P4.3: Level(-1): %d, %d", v, e)
	}
	s = New(3)
	if l, e := s.Perm(0); len(l) != 0 || e != api.OK {
		t.Errorf("P4.4: Perm(0): %v, %d", l, e)
	}
	if l, e := s.Perm(1); !slices.Equal(l, []int{0}) || e != api.OK {
		t.Errorf("P4.4: Perm(1): %v, %d", l, e)
	}
}

func TestNext(t *testing.T) {
	for _, seed := range someSeeds {
		s, o := New(seed), oracleOf(seed)
		for i := range 200 {
			if v, want := s.Next(), o.next(); v != want {
				t.Fatalf("P4.1: New(%x), Next number %d: %x, want %x", seed, i+1, v, want)
			}
		}
	}
}

// The state is the seed and nothing else: the draws of a later state are those of the earlier one from there on.
func TestSeedIsTheState(t *testing.T) {
	for _, seed := range someSeeds {
		s := New(seed)
		for i := range uint64(20) {
			sameState(t, "P4.1", s, New(seed+i*step))
			s.Next()
		}
	}
}

func TestBelow(t *testing.T) {
	sizes := []int{1, 2, 3, 4, 7, 10, 255, 256, 257, 65535, 65536, 65537, 999999999, 1000000000}
	for _, seed := range someSeeds {
		s, o := New(seed), oracleOf(seed)
		for _, n := range sizes {
			if v, e := s.Below(n); v != o.below(n) || e != api.OK {
				t.Fatalf("P4.2: New(%x), Below(%d): %d, %d", seed, n, v, e)
			}
		}
	}
}

// Draws above 2^63 are numbers like the others, and the greatest and the least rests are met.
func TestBelowOfADraw(t *testing.T) {
	for _, z := range []uint64{0, 1, 999999999, 1000000000, 1000000001, 1<<63 - 1, 1 << 63, 1<<63 + 1, math.MaxUint64} {
		if v := New(seedFor(z)).Next(); v != z {
			t.Fatalf("P4.1: the seed for the draw %x draws %x", z, v)
		}
		for _, n := range []int{1, 2, 3, 10, 999999999, 1000000000} {
			want := int(new(big.Int).Mod(new(big.Int).SetUint64(z), big.NewInt(int64(n))).Int64())
			if v, e := New(seedFor(z)).Below(n); v != want || e != api.OK {
				t.Errorf("P4.2: draw %x, Below(%d): %d, %d, want %d", z, n, v, e, want)
			}
		}
	}
}

func TestLevel(t *testing.T) {
	for _, seed := range someSeeds {
		for most := 0; most <= api.MaxLevel; most++ {
			s, o := New(seed), oracleOf(seed)
			for range 40 {
				if v, e := s.Level(most); v != o.level(most) || e != api.OK {
					t.Fatalf("P4.3: New(%x), Level(%d): %d, %d", seed, most, v, e)
				}
			}
		}
	}
}

// Draws of each number of noughts at the lower end, 64 of them too, under each cap.
func TestLevelOfADraw(t *testing.T) {
	for noughts := 0; noughts <= 64; noughts++ {
		for _, odd := range []uint64{1, 3, math.MaxUint64} {
			z := odd << noughts
			for most := 0; most <= api.MaxLevel; most++ {
				v, e := New(seedFor(z)).Level(most)
				if want := min(noughts/2, most); v != want || e != api.OK {
					t.Errorf("P4.3: draw %x, Level(%d): %d, %d, want %d", z, most, v, e, want)
				}
			}
		}
	}
}

// Of draws that differ in their lower ends in all possible ways, three of four have level 0, and so on.
func TestLevelsShares(t *testing.T) {
	const bits = 12
	many := map[int]int{}
	for low := range uint64(1 << bits) {
		v, e := New(seedFor(0xabcdef<<bits | low)).Level(bits / 2)
		if e != api.OK {
			t.Fatal(e)
		}
		many[v]++
	}
	left := 1 << bits
	for level := range bits / 2 {
		if many[level] != left/4*3 {
			t.Errorf("P4.6: level %d: %d of %d", level, many[level], left)
		}
		left -= many[level]
	}
	if many[bits/2] != left {
		t.Errorf("P4.6: level %d: %d, want %d", bits/2, many[bits/2], left)
	}
}

func TestPerm(t *testing.T) {
	for _, seed := range someSeeds {
		s, o := New(seed), oracleOf(seed)
		for _, n := range []int{0, 1, 2, 3, 4, 5, 64, 257, 512} {
			l, e := s.Perm(n)
			if !slices.Equal(l, o.perm(n)) || e != api.OK {
				t.Fatalf("P4.4: New(%x), Perm(%d): %v, %d", seed, n, l, e)
			}
			// n - 1 draws are gone, and no more.
			if v, want := s.Clone().Next(), (&oracle{o.state}).next(); v != want {
				t.Fatalf("P4.4: New(%x), behind Perm(%d): %x, want %x", seed, n, v, want)
			}
		}
	}
}

func TestPermOfTheGreatestSize(t *testing.T) {
	const most = 65536
	s := New(9)
	l, e := s.Perm(most)
	if !slices.Equal(l, oracleOf(9).perm(most)) || e != api.OK {
		t.Fatalf("P4.4: Perm(%d): %d numbers, %d", most, len(l), e)
	}
	slices.Sort(l)
	for i, v := range l {
		if v != i {
			t.Fatalf("P4.4: the number %d stands not just once", i)
		}
	}
	var count uint64 = most - 1
	sameState(t, "P4.4: behind Perm(65536)", s, New(9+count*step))
}

// Every order of three numbers comes about by some seed.
func TestPermEveryOrder(t *testing.T) {
	had := map[[3]int]int{}
	for seed := range uint64(200) {
		l, e := New(seed).Perm(3)
		if len(l) != 3 || e != api.OK {
			t.Fatalf("P4.4: Perm(3): %v, %d", l, e)
		}
		had[[3]int(l)]++
	}
	if len(had) != 6 {
		t.Errorf("P4.4: of 6 orders there are %d", len(had))
	}
}

// Of a wrong size nothing is drawn.
func TestWrongSizes(t *testing.T) {
	for _, seed := range someSeeds {
		s := New(seed)
		for _, n := range append([]int{0, 1000000001}, wrongSizes...) {
			if v, e := s.Below(n); v != 0 || e != api.ErrArg {
				t.Errorf("P4.2: Below(%d): %d, %d", n, v, e)
			}
			sameState(t, "P4.2: behind a wrong size", s, New(seed))
		}
		for _, n := range append([]int{api.MaxLevel + 1, 64}, wrongSizes...) {
			if v, e := s.Level(n); v != 0 || e != api.ErrArg {
				t.Errorf("P4.3: Level(%d): %d, %d", n, v, e)
			}
			sameState(t, "P4.3: behind a wrong size", s, New(seed))
		}
		for _, n := range append([]int{65537, 1000000000}, wrongSizes...) {
			if l, e := s.Perm(n); len(l) != 0 || e != api.ErrArg {
				t.Errorf("P4.4: Perm(%d): %d numbers, %d", n, len(l), e)
			}
			sameState(t, "P4.4: behind a wrong size", s, New(seed))
		}
	}
}

// A call draws just what it needs: one each, Perm of 0 or 1 none.
func TestHowManyDraws(t *testing.T) {
	for _, c := range []struct {
		name  string
		call  func(*Source)
		draws uint64
	}{
		{"Next", func(s *Source) { s.Next() }, 1},
		{"Below(1)", func(s *Source) { s.Below(1) }, 1},
		{"Below(1000000000)", func(s *Source) { s.Below(1000000000) }, 1},
		{"Level(0)", func(s *Source) { s.Level(0) }, 1},
		{"Level(30)", func(s *Source) { s.Level(30) }, 1},
		{"Perm(0)", func(s *Source) { s.Perm(0) }, 0},
		{"Perm(1)", func(s *Source) { s.Perm(1) }, 0},
		{"Perm(2)", func(s *Source) { s.Perm(2) }, 1},
		{"Perm(10)", func(s *Source) { s.Perm(10) }, 9},
		{"Clone", func(s *Source) { s.Clone().Next() }, 0},
	} {
		for _, seed := range someSeeds {
			s := New(seed)
			c.call(s)
			sameState(t, "P4.1 to P4.5: behind "+c.name, s, New(seed+c.draws*step))
		}
	}
}

// Two sources of one state give the same, and neither goes on by the other's calls.
func TestClone(t *testing.T) {
	s := New(11)
	s.Perm(7)
	c := s.Clone()
	if c == s {
		t.Fatal("P4.5: the clone is the source itself")
	}
	var fromSource []uint64
	for range 10 {
		fromSource = append(fromSource, s.Next())
	}
	for i, want := range fromSource {
		if v := c.Next(); v != want {
			t.Errorf("P4.5: the clone's draw %d: %x, want %x", i+1, v, want)
		}
	}
	sameState(t, "P4.6", c, s)
	kept := s.Clone().Next()
	for range 3 {
		c.Next()
	}
	if v := s.Next(); v != kept {
		t.Errorf("P4.6: the source goes on by its clone's calls: %x, want %x", v, kept)
	}
	a, b := New(4), New(4)
	for range 5 {
		a.Next()
	}
	sameState(t, "P4.6: a source by another's calls", b, New(4))
}

// Calls of all kinds in a row, among them wrong ones, hold against the oracle.
func TestCallsMixed(t *testing.T) {
	for _, seed := range someSeeds {
		s, o := New(seed), oracleOf(seed)
		for i := range 60 {
			if v, e := s.Below(i*7919 + 1); v != o.below(i*7919+1) || e != api.OK {
				t.Fatalf("P4.6: Below: %d, %d", v, e)
			}
			s.Below(-i)
			if v, e := s.Level(i % 31); v != o.level(i%31) || e != api.OK {
				t.Fatalf("P4.6: Level: %d, %d", v, e)
			}
			s.Level(31 + i)
			if l, e := s.Perm(i); !slices.Equal(l, o.perm(i)) || e != api.OK {
				t.Fatalf("P4.6: Perm(%d): %v, %d", i, l, e)
			}
			s.Perm(65537 + i)
			if v, want := s.Next(), o.next(); v != want {
				t.Fatalf("P4.6: Next: %x, want %x", v, want)
			}
		}
	}
}

// What comes out is new memory.
func TestPermsShareNothing(t *testing.T) {
	s := New(2)
	c := s.Clone()
	a, _ := s.Perm(20)
	// The spare room is its caller's, too.
	for i := range a[:cap(a)] {
		a[:cap(a)][i] = -1
	}
	b, _ := c.Perm(20)
	if !slices.Equal(b, oracleOf(2).perm(20)) {
		t.Errorf("R2: a list that was written into shows in another: %v", b)
	}
}

func TestNilSource(t *testing.T) {
	var none *Source
	if v := none.Next(); v != 0 {
		t.Errorf("R3: Next: %x", v)
	}
	if c := none.Clone(); c != nil {
		t.Errorf("P4.5: Clone of a nil source: %v", c)
	}
	for _, n := range append([]int{0, 1, 30, 31, 65536, 1000000000}, wrongSizes...) {
		if v, e := none.Below(n); v != 0 || e != api.ErrNil {
			t.Errorf("R3: Below(%d): %d, %d", n, v, e)
		}
		if v, e := none.Level(n); v != 0 || e != api.ErrNil {
			t.Errorf("R3: Level(%d): %d, %d", n, v, e)
		}
		if l, e := none.Perm(n); len(l) != 0 || e != api.ErrNil {
			t.Errorf("R3: Perm(%d): %v, %d", n, l, e)
		}
	}
}
