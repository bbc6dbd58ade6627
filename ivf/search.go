package ivf

import (
	"slices"

	"theodolite/api"
	"theodolite/topk"
	"theodolite/vec"
	"theodolite/wide"
)

// search is one question under way.
type search struct {
	q      []int
	best   *topk.Heap
	budget int // how many rows may still be looked at
	seen   []int
	rest   []api.Region
}

// visit looks at the rows of a list, as many as the budget allows, or at none, if the list is too far away.
func (s *search) visit(l list) {
	count := 0
	if !s.isBeyond(l) {
		count = min(s.budget, len(l.rows))
	}
	for _, row := range l.rows[:count] {
		s.lookAt(row)
	}
	if count < len(l.rows) {
		// A smaller ball of those that are left would be known by looking at them alone.
		s.rest = append(s.rest, api.Region{
			Shape:  api.ShapeBall,
			Lo:     slices.Clone(l.ball.Lo),
			Radius: l.ball.Radius,
			Ids:    slices.Clone(l.ball.Ids[count:]),
		})
	}
}

// isBeyond tells whether no row of the list can be among the first k. It stays so, as the hits that are found only get nearer.
func (s *search) isBeyond(l list) bool {
	worst, _ := s.best.Worst()
	// Ball and question are of the tree's dimension, so that there is a bound.
	bound, _ := vec.Bound(l.ball, s.q)
	return s.best.Full() && wide.Cmp(bound, worst.Dist) > 0
}

// lookAt uses up one row of the budget.
func (s *search) lookAt(row api.Row) {
	far, _ := vec.Dist(s.q, row.V)
	s.best.Offer(api.Hit{Id: row.Id, Dist: far})
	s.seen = append(s.seen, row.Id)
	s.budget--
}

// answer tells what the search has found, whom it has seen, and where the rest is.
func (s *search) answer() api.Answer {
	slices.Sort(s.seen)
	return api.Answer{Hits: s.best.List(), Seen: s.seen, Rest: s.rest}
}
