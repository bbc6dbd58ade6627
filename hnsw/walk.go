package hnsw

import (
	"container/heap"
	"maps"
	"slices"

	"theodolite/api"
	"theodolite/topk"
	"theodolite/vec"
)

// walk goes from row to row, towards a vector. Whom it has seen on one level stands on all lower ones, too, and need not be looked at again there.
type walk struct {
	tree    *Tree
	to      []int
	best    *topk.Heap
	budget  int             // how many rows may still be looked at
	seen    map[int]api.Hit // by their ids
	nearest api.Hit         // of those that are seen
}

// nearestFirst is what container/heap works on: the row that is looked at next stands in front.
type nearestFirst []api.Hit

// walkTo begins a walk at the tree's entry, if there is one.
func (t *Tree) walkTo(v []int, best *topk.Heap, budget int) *walk {
	w := &walk{tree: t, to: v, best: best, budget: budget, seen: map[int]api.Hit{}}
	if t.entry != 0 {
		w.lookAt(t.entry)
	}
	return w
}

// lookAt uses up one row of the budget, and answers false, if there is none left, or the row was looked at before.
func (w *walk) lookAt(id int) (api.Hit, bool) {
	if _, had := w.seen[id]; had || w.budget == 0 {
		return api.Hit{}, false
	}
	far, _ := vec.Dist(w.to, w.tree.nodes[id].v)
	hit := api.Hit{Id: id, Dist: far}
	if len(w.seen) == 0 || topk.Less(hit, w.nearest) {
		w.nearest = hit
	}
	w.seen[id] = hit
	w.best.Offer(hit)
	w.budget--
	return hit, true
}

// spread looks, on a level, at those whom the nearest of some seen rows knows, again and again, till the nearest one that is left is far enough.
func (w *walk) spread(level int, from []api.Hit, enough func(next api.Hit) bool) {
	open := nearestFirst(from)
	heap.Init(&open)
	for len(open) > 0 && !enough(open[0]) {
		next := open[0]
		heap.Pop(&open)
		for _, other := range w.tree.nodes[next.Id].known[level] {
			if hit, fresh := w.lookAt(other.Id); fresh {
				heap.Push(&open, hit)
			}
		}
	}
}

// descend comes down to just above a level: on each one to a row that is nearer than all whom it knows there.
func (w *walk) descend(level int) {
	for above := w.tree.Levels() - 1; above > level; above-- {
		w.spread(above, w.all(), func(next api.Hit) bool { return topk.Less(w.nearest, next) })
	}
}

// goRound looks at all rows of the lowest level, the near ones first, as long as the budget lasts.
func (w *walk) goRound() {
	usedUp := func(api.Hit) bool { return w.budget == 0 }
	w.spread(0, w.all(), usedUp)
	// Nobody who was seen knows those that are left: the walk begins with one of them anew.
	for _, id := range w.tree.ids() {
		if hit, fresh := w.lookAt(id); fresh {
			w.spread(0, []api.Hit{hit}, usedUp)
		}
	}
}

// all lists those that are seen, in no order.
func (w *walk) all() []api.Hit { return slices.Collect(maps.Values(w.seen)) }

// answer tells what the walk has found, whom it has seen, and who is left: they may be anywhere.
func (w *walk) answer() api.Answer {
	var seen, left []int
	for _, id := range w.tree.ids() {
		if _, had := w.seen[id]; had {
			seen = append(seen, id)
		} else {
			left = append(left, id)
		}
	}
	answer := api.Answer{Hits: w.best.List(), Seen: seen}
	if len(left) > 0 {
		answer.Rest = []api.Region{{Shape: api.ShapeAll, Ids: left}}
	}
	return answer
}

// Len is container/heap's.
func (n nearestFirst) Len() int { return len(n) }

// Less is container/heap's.
func (n nearestFirst) Less(i, j int) bool { return topk.Less(n[i], n[j]) }

// Swap is container/heap's.
func (n nearestFirst) Swap(i, j int) { n[i], n[j] = n[j], n[i] }

// Push is container/heap's. It hands on what spread gave it, which is always a hit.
func (n *nearestFirst) Push(x any) {
	if hit, ok := x.(api.Hit); ok {
		*n = append(*n, hit)
	}
}

// Pop is container/heap's.
func (n *nearestFirst) Pop() any {
	last := len(*n) - 1
	hit := (*n)[last]
	*n = (*n)[:last]
	return hit
}
