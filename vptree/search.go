package vptree

import (
	"slices"
	"sort"

	"theodolite/api"
	"theodolite/topk"
	"theodolite/vec"
	"theodolite/wide"
)

// search is one question under way.
type search struct {
	q      []int
	best   *topk.Heap
	budget int // how many rows may still be looked at
	seen   []int
	open   []candidate // those that are still to be looked at, the nearest last
}

// candidate is a part, and its ball's bound for the question.
type candidate struct {
	part  *part
	bound api.Wide
}

// await lays a part among those that are to be looked at, if it is one.
func (s *search) await(p *part) {
	if p == nil {
		return
	}
	// Ball and question are of the tree's dimension, so that there is a bound.
	bound, _ := vec.Bound(p.ball, s.q)
	// Of those that are as near the newest comes to stand last: it is the smaller ball, and sooner has rows to look at.
	place := sort.Search(len(s.open), func(i int) bool { return wide.Cmp(s.open[i].bound, bound) < 0 })
	s.open = slices.Insert(s.open, place, candidate{part: p, bound: bound})
}

// run looks at the nearest part, again and again, till what was found is certain or the budget is used up.
func (s *search) run() {
	for len(s.open) > 0 {
		last := len(s.open) - 1
		next := s.open[last]
		if s.isBeyond(next) {
			return
		}
		// Parts that are cut cost nothing: they are taken apart even if the budget is used up, as their halves may be beyond.
		if !next.part.isCut() && s.budget == 0 {
			return
		}
		s.open = s.open[:last]
		s.lookAt(next.part)
	}
}

// isBeyond tells whether no row of c can be among the first k. Then this is so of all that are farther, too.
func (s *search) isBeyond(c candidate) bool {
	worst, _ := s.best.Worst()
	return s.best.Full() && wide.Cmp(c.bound, worst.Dist) > 0
}

// lookAt takes a part apart, or looks at its rows, as many as the budget allows.
func (s *search) lookAt(p *part) {
	if p.isCut() {
		s.await(p.near)
		s.await(p.far)
		return
	}
	count := min(s.budget, len(p.rows))
	s.budget -= count
	for _, row := range p.rows[:count] {
		far, _ := vec.Dist(s.q, row.V)
		s.best.Offer(api.Hit{Id: row.Id, Dist: far})
		s.seen = append(s.seen, row.Id)
	}
	if count < len(p.rows) {
		// A smaller ball of the others would be known by looking at them alone.
		s.await(&part{ball: p.ball, rows: p.rows[count:]})
	}
}

// answer tells what the search has found, whom it has seen, and where the rest is, the nearest first.
func (s *search) answer() api.Answer {
	slices.Sort(s.seen)
	var rest []api.Region
	for _, next := range slices.Backward(s.open) {
		rest = append(rest, next.part.region())
	}
	return api.Answer{Hits: s.best.List(), Seen: s.seen, Rest: rest}
}
