package backend

import (
	"slices"

	"theodolite/api"
	"theodolite/ivf"
	"theodolite/pq"
	"theodolite/topk"
	"theodolite/vec"
	"theodolite/wide"
)

// coded is KindPq: rows in lists round centres, as package ivf keeps them, with a code each. The codes tell which rows of a list are likely to be the nearest: these are looked at first, by their exact vectors.
type coded struct {
	*ivf.Tree
	coder *pq.Coder
	known map[int]codedRow // by the rows' ids
}

// codedRow is a row's vector, which the tree does not tell by an id, and its code.
type codedRow struct{ v, code []int }

// codedOf makes an index of rows that were checked, for a spec that was.
func codedOf(s api.Spec, dim int, rows []api.Row, seed uint64) *coded {
	lists, _ := ivf.Build(rows, dim, s.Size, rounds, seed)
	own := lists.Rows()
	c := &coded{Tree: lists, coder: coderOf(s, dim, own, seed), known: map[int]codedRow{}}
	for _, row := range own {
		c.learn(row.Id, row.V)
	}
	return c
}

// coderOf trains the coder with the rows' vectors.
func coderOf(s api.Spec, dim int, rows []api.Row, seed uint64) *pq.Coder {
	vectors := make([][]int, 0, len(rows))
	for _, row := range rows {
		vectors = append(vectors, row.V)
	}
	// A book has one vector at least, where the tree has one centre at least: both are noughts, if nothing else is known.
	if len(vectors) == 0 {
		vectors = append(vectors, make([]int, dim))
	}
	coder, _ := pq.Train(vectors, dim, s.Parts, min(s.Codes, len(vectors)), rounds, seed)
	return coder
}

// learn remembers a row that was checked. It takes the vector's memory over.
func (c *coded) learn(id int, v []int) {
	code, _ := c.coder.Encode(v)
	c.known[id] = codedRow{v: v, code: code}
}

// Put lays a row into its list, and tells whether no row had its id.
func (c *coded) Put(row api.Row) (bool, api.Errno) {
	fresh, e := c.Tree.Put(row)
	if e != api.OK {
		return false, e
	}
	c.learn(row.Id, slices.Clone(row.V))
	return fresh, api.OK
}

// Delete takes the row of this id away, and tells whether there was one.
func (c *coded) Delete(id int) (bool, api.Errno) {
	delete(c.known, id)
	return c.Tree.Delete(id)
}

// Search goes from list to list, and leaves out those that can have no nearer row, till the budget is used up.
func (c *coded) Search(q []int, k, budget int) (api.Answer, api.Errno) {
	// Asked to look at nobody, the tree tells all its lists, that of the nearest centre first.
	lists, e := c.Tree.Search(q, k, 0)
	if e != api.OK {
		return api.Answer{}, e
	}
	if budget < 0 || budget > api.MaxBudget {
		return api.Answer{}, api.ErrArg
	}
	best, _ := topk.New(k)
	table, _ := c.coder.Table(q)
	s := &codedSearch{q: q, table: table, known: c.known, best: best, budget: budget}
	for _, list := range lists.Rest {
		s.visit(list)
	}
	return s.answer(), api.OK
}

// codedSearch is one question under way.
type codedSearch struct {
	q      []int
	table  [][]api.Wide // how far q is from what the codes stand for
	known  map[int]codedRow
	best   *topk.Heap
	budget int // how many rows may still be looked at
	seen   []int
	rest   []api.Region
}

// visit looks at the rows of a list, as many as the budget allows, or at none, if the list is too far away. It takes the list's memory over.
func (s *codedSearch) visit(list api.Region) {
	if s.budget == 0 || s.isBeyond(list) {
		s.rest = append(s.rest, list)
		return
	}
	s.sortByCodes(list.Ids)
	count := min(s.budget, len(list.Ids))
	for _, id := range list.Ids[:count] {
		s.lookAt(id)
	}
	if count < len(list.Ids) {
		list.Ids = list.Ids[count:]
		slices.Sort(list.Ids)
		s.rest = append(s.rest, list)
	}
}

// isBeyond tells whether no row of the list can be among the first k. It stays so, as the hits that are found only get nearer.
func (s *codedSearch) isBeyond(list api.Region) bool {
	worst, _ := s.best.Worst()
	// List and question are of the tree's dimension, so that there is a bound.
	bound, _ := vec.Bound(list, s.q)
	return s.best.Full() && wide.Cmp(bound, worst.Dist) > 0
}

// sortByCodes orders ids by what their rows' codes tell of the distances; those that rise stay so where the codes tell the same.
func (s *codedSearch) sortByCodes(ids []int) {
	guesses := make(map[int]api.Wide, len(ids))
	for _, id := range ids {
		// The codes are the coder's own, and few distances of vectors have room for their sum.
		guesses[id], _ = pq.Estimate(s.table, s.known[id].code)
	}
	slices.SortStableFunc(ids, func(a, b int) int { return wide.Cmp(guesses[a], guesses[b]) })
}

// lookAt uses up one row of the budget.
func (s *codedSearch) lookAt(id int) {
	far, _ := vec.Dist(s.q, s.known[id].v)
	s.best.Offer(api.Hit{Id: id, Dist: far})
	s.seen = append(s.seen, id)
	s.budget--
}

// answer tells what the search has found, whom it has seen, and where the rest is.
func (s *codedSearch) answer() api.Answer {
	slices.Sort(s.seen)
	return api.Answer{Hits: s.best.List(), Seen: s.seen, Rest: s.rest}
}
