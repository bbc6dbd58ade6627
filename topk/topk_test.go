package topk

import (
	"math"
	"slices"
	"sort"
	"testing"

	"theodolite/api"
)

const top = math.MaxUint64

func hit(id int, dist uint64) api.Hit { return api.Hit{Id: id, Dist: api.Wide{Lo: dist}} }

func far(id int, hi, lo uint64) api.Hit { return api.Hit{Id: id, Dist: api.Wide{Hi: hi, Lo: lo}} }

// ahead says P2.1 anew, by other means than the package does.
func ahead(a, b api.Hit) bool {
	if a.Dist.Hi != b.Dist.Hi {
		return a.Dist.Hi < b.Dist.Hi
	}
	if a.Dist.Lo != b.Dist.Lo {
		return a.Dist.Lo < b.Dist.Lo
	}
	return a.Id < b.Id
}

// firstOf tells the first k by sorting all.
func firstOf(k int, hits []api.Hit) []api.Hit {
	all := slices.Clone(hits)
	sort.Slice(all, func(i, j int) bool { return ahead(all[i], all[j]) })
	return all[:min(k, len(all))]
}

// source gives the same numbers in every run.
type source uint64

func (s *source) below(n int) int {
	*s ^= *s << 13
	*s ^= *s >> 7
	*s ^= *s << 17
	return int(uint64(*s) % uint64(n))
}

// crowd is n hits, of few distances and ids, so that many are the same in one of them or in both.
func crowd(s *source, n int) []api.Hit {
	var l []api.Hit
	for range n {
		l = append(l, far(s.below(7)-3, uint64(s.below(3)), uint64(s.below(4))))
	}
	return l
}

func newHeap(t *testing.T, k int) *Heap {
	t.Helper()
	h, e := New(k)
	if h == nil || e != api.OK {
		t.Fatalf("P2.2: New(%d): %v, %d", k, h, e)
	}
	return h
}

// holds asks all that a heap tells against what it must have.
func holds(t *testing.T, what string, h *Heap, k int, want []api.Hit) {
	t.Helper()
	if got := h.List(); !slices.Equal(got, want) {
		t.Fatalf("P2.5: %s: List: %v, want %v", what, got, want)
	}
	if h.Len() != len(want) {
		t.Fatalf("P2.4: %s: Len: %d, want %d", what, h.Len(), len(want))
	}
	if h.Full() != (len(want) == k) {
		t.Fatalf("P2.4: %s: Full: %v, of %d it has %d", what, h.Full(), k, len(want))
	}
	worst, some := h.Worst()
	if len(want) == 0 {
		if some || worst != (api.Hit{}) {
			t.Fatalf("P2.4: %s: Worst of no hits: %v, %v", what, worst, some)
		}
		return
	}
	if !some || worst != want[len(want)-1] {
		t.Fatalf("P2.4: %s: Worst: %v, %v, want %v", what, worst, some, want[len(want)-1])
	}
}

// The chapter's table, line by line.
func TestExamples(t *testing.T) {
	if !Less(hit(2, 5), hit(1, 6)) || !Less(hit(1, 5), hit(2, 5)) || Less(hit(1, 5), hit(1, 5)) {
		t.Error("P2.1: Less(2:5, 1:6), Less(1:5, 2:5), Less(1:5, 1:5)")
	}
	for _, k := range []int{0, 65} {
		if h, e := New(k); h != nil || e != api.ErrArg {
			t.Errorf("P2.2: New(%d): %v, %d", k, h, e)
		}
	}
	h := newHeap(t, 2)
	for _, x := range []struct {
		hit  api.Hit
		kept bool
	}{{hit(1, 9), true}, {hit(2, 4), true}, {hit(3, 9), false}, {hit(3, 4), true}} {
		if kept := h.Offer(x.hit); kept != x.kept {
			t.Errorf("P2.3: Offer(%v): %v", x.hit, kept)
		}
	}
	holds(t, "the example's heap", h, 2, []api.Hit{hit(2, 4), hit(3, 4)})
	l, e := Merge(3, []api.Hit{hit(5, 1), hit(4, 9)}, nil, []api.Hit{hit(6, 1), hit(5, 1)})
	if !slices.Equal(l, []api.Hit{hit(5, 1), hit(5, 1), hit(6, 1)}) || e != api.OK {
		t.Errorf("P2.6: Merge: %v, %d", l, e)
	}
}

func TestLess(t *testing.T) {
	ids := []int{math.MinInt, -1, 0, 1, 2, api.MaxId, math.MaxInt}
	words := []uint64{0, 1, 1<<63 - 1, 1 << 63, top}
	var l []api.Hit
	for _, id := range ids {
		for _, hi := range words {
			for _, lo := range words {
				l = append(l, far(id, hi, lo))
			}
		}
	}
	for _, a := range l {
		for _, b := range l {
			if Less(a, b) != ahead(a, b) {
				t.Fatalf("P2.1: Less(%v, %v): %v", a, b, Less(a, b))
			}
		}
	}
}

func TestSizes(t *testing.T) {
	for _, k := range []int{math.MinInt, -1, 0, api.MaxK + 1, 1000, math.MaxInt} {
		if h, e := New(k); h != nil || e != api.ErrArg {
			t.Errorf("P2.2: New(%d): %v, %d", k, h, e)
		}
		if l, e := Merge(k, []api.Hit{hit(1, 1)}); len(l) != 0 || e != api.ErrArg {
			t.Errorf("P2.6: Merge(%d, 1:1): %v, %d", k, l, e)
		}
		if l, e := Merge(k); len(l) != 0 || e != api.ErrArg {
			t.Errorf("P2.6: Merge(%d): %v, %d", k, l, e)
		}
	}
	for k := 1; k <= api.MaxK; k++ {
		h := newHeap(t, k)
		holds(t, "a new one", h, k, nil)
		var offered []api.Hit
		for i := range k + 2 {
			// Each is worse than those ahead of it: the last two find no place.
			x := hit(i, uint64(i))
			if kept := h.Offer(x); kept != (i < k) {
				t.Fatalf("P2.3: of size %d, Offer number %d: %v", k, i+1, kept)
			}
			offered = append(offered, x)
			holds(t, "worse and worse", h, k, offered[:min(k, len(offered))])
		}
	}
}

func TestOfferEachBetter(t *testing.T) {
	for _, k := range []int{1, 2, 3, 63, 64} {
		h := newHeap(t, k)
		var offered []api.Hit
		for i := range 3 * k {
			x := far(3*k-i, uint64(3*k-i), top)
			if !h.Offer(x) {
				t.Fatalf("P2.3: of size %d, a better one is not kept: %v", k, x)
			}
			offered = append(offered, x)
			holds(t, "better and better", h, k, firstOf(k, offered))
		}
	}
}

// Equal hits each count; one that is the same as the worst is not less than it.
func TestOfferTheSame(t *testing.T) {
	h := newHeap(t, 3)
	for i, kept := range []bool{true, true, true, false, false} {
		if got := h.Offer(hit(7, 7)); got != kept {
			t.Errorf("P2.3: the same, time %d: %v", i+1, got)
		}
	}
	holds(t, "the same", h, 3, []api.Hit{hit(7, 7), hit(7, 7), hit(7, 7)})
	if h.Offer(hit(8, 7)) {
		t.Error("P2.3: at one distance a greater id is kept")
	}
	if !h.Offer(hit(6, 7)) {
		t.Error("P2.3: at one distance a lesser id is not kept")
	}
	holds(t, "one in place of another", h, 3, []api.Hit{hit(6, 7), hit(7, 7), hit(7, 7)})
}

// Any ids and distances may be offered, zero ones as well.
func TestOfferAnything(t *testing.T) {
	h := newHeap(t, 4)
	for _, x := range []api.Hit{far(math.MaxInt, top, top), {}, far(math.MinInt, top, top), far(-5, 0, 0)} {
		if !h.Offer(x) {
			t.Errorf("P2.3: Offer(%v): not kept", x)
		}
	}
	holds(t, "anything", h, 4, []api.Hit{hit(-5, 0), {}, far(math.MinInt, top, top), far(math.MaxInt, top, top)})
}

func TestFirstOfWhatWasOffered(t *testing.T) {
	s := source(88172645463325252)
	for _, k := range []int{1, 2, 3, 5, 17, 63, 64} {
		for range 8 {
			h := newHeap(t, k)
			offered := crowd(&s, 200)
			for i, x := range offered {
				had := firstOf(k, offered[:i])
				if kept := h.Offer(x); kept != (len(had) < k || ahead(x, had[k-1])) {
					t.Fatalf("P2.3: Offer(%v): %v", x, kept)
				}
				holds(t, "P2.7", h, k, firstOf(k, offered[:i+1]))
			}
		}
	}
}

func TestAnyOrderOfOffers(t *testing.T) {
	hits := []api.Hit{hit(1, 3), hit(2, 3), hit(1, 3), hit(4, 1), far(1, 1, 0), hit(3, 2)}
	for k := 1; k <= len(hits); k++ {
		want := firstOf(k, hits)
		orders(hits, 0, func() {
			h := newHeap(t, k)
			for _, x := range hits {
				h.Offer(x)
			}
			holds(t, "P2.7: in another order", h, k, want)
		})
	}
}

// orders calls do at every order of the hits from place at on.
func orders(hits []api.Hit, at int, do func()) {
	if at == len(hits) {
		do()
		return
	}
	for i := at; i < len(hits); i++ {
		hits[at], hits[i] = hits[i], hits[at]
		orders(hits, at+1, do)
		hits[at], hits[i] = hits[i], hits[at]
	}
}

func TestMerge(t *testing.T) {
	s := source(362436069)
	for _, k := range []int{1, 2, 9, 63, 64} {
		for count := range 9 {
			var lists [][]api.Hit
			var all []api.Hit
			for range count {
				list := crowd(&s, s.below(30))
				lists = append(lists, list)
				all = append(all, list...)
			}
			if got, e := Merge(k, lists...); !slices.Equal(got, firstOf(k, all)) || e != api.OK {
				t.Fatalf("P2.6: Merge(%d, of %d lists): %v, %d", k, count, got, e)
			}
		}
	}
}

func TestMergeOfNothing(t *testing.T) {
	for _, lists := range [][][]api.Hit{nil, {nil}, {{}}, {nil, {}, nil}} {
		if got, e := Merge(api.MaxK, lists...); len(got) != 0 || e != api.OK {
			t.Errorf("P2.6: Merge of no hits: %v, %d", got, e)
		}
	}
}

func TestMergeOfParts(t *testing.T) {
	s := source(521288629)
	for _, k := range []int{1, 4, 64} {
		for range 20 {
			var parts [][]api.Hit
			var all []api.Hit
			for range 5 {
				part := crowd(&s, s.below(90))
				all = append(all, part...)
				first, e := Merge(k, part)
				if e != api.OK {
					t.Fatalf("P2.6: Merge of one list: %d", e)
				}
				parts = append(parts, first)
			}
			ofParts, _ := Merge(k, parts...)
			ofAll, _ := Merge(k, all)
			if !slices.Equal(ofParts, ofAll) {
				t.Fatalf("P2.7: of the parts' first %d: %v, of all: %v", k, ofParts, ofAll)
			}
		}
	}
}

// R2: what is handed in stays as it is, in its spare room, too.
func TestMergeLeavesLists(t *testing.T) {
	first := []api.Hit{hit(9, 9), hit(1, 1), hit(5, 5), hit(7, 7), hit(8, 8)}
	second := []api.Hit{hit(4, 4), hit(2, 2)}
	lists := [][]api.Hit{first[:2], second, nil}
	was, other := slices.Clone(first), slices.Clone(second)
	got, _ := Merge(4, lists...)
	for i := range got {
		got[i] = hit(-1, 0)
	}
	if !slices.Equal(first, was) || !slices.Equal(second, other) {
		t.Errorf("R2: Merge wrote into its lists: %v, %v", first, second)
	}
	if len(lists[0]) != 2 || len(lists[1]) != 2 || lists[2] != nil {
		t.Errorf("R2: Merge wrote into the list of lists: %v", lists)
	}
}

// R2: who writes into a list that came out writes into no heap, and the heap's later ways are not seen in it.
func TestListIsNew(t *testing.T) {
	h := newHeap(t, 3)
	for _, x := range []api.Hit{hit(1, 5), hit(2, 6), hit(3, 7)} {
		h.Offer(x)
	}
	l := h.List()
	again := h.List()
	for i := range l {
		l[i] = hit(0, 0)
	}
	want := []api.Hit{hit(1, 5), hit(2, 6), hit(3, 7)}
	if !slices.Equal(again, want) {
		t.Errorf("R2: two lists share memory: %v", again)
	}
	holds(t, "its list was written into", h, 3, want)
	h.Offer(hit(4, 1))
	if !slices.Equal(again, want) {
		t.Errorf("R2: Offer wrote into a list that came out: %v", again)
	}
}

func TestHeapsKnowNothingOfOneAnother(t *testing.T) {
	a, b := newHeap(t, 2), newHeap(t, 2)
	a.Offer(hit(1, 1))
	holds(t, "R2: another one was offered a hit", b, 2, nil)
	b.Offer(hit(2, 2))
	holds(t, "R2: the first", a, 2, []api.Hit{hit(1, 1)})
}

func TestNilHeap(t *testing.T) {
	var none *Heap
	if none.Offer(hit(1, 1)) {
		t.Error("R3: Offer")
	}
	if none.Len() != 0 || none.Full() {
		t.Error("R3: Len, Full")
	}
	if worst, some := none.Worst(); worst != (api.Hit{}) || some {
		t.Errorf("R3: Worst: %v, %v", worst, some)
	}
	if len(none.List()) != 0 {
		t.Error("R3: List")
	}
}
