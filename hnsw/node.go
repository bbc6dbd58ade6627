package hnsw

import (
	"cmp"
	"slices"

	"theodolite/api"
	"theodolite/rand"
	"theodolite/topk"
	"theodolite/vec"
	"theodolite/wide"
)

// node is a row, and whom it knows. Who knows it is not told by it: one may know another who does not know that one.
type node struct {
	v     []int
	level int                         // the highest on which the row stands; it stands on all below, too
	known [api.MaxLevel + 1][]api.Hit // level by level, the nearest first
}

// add lays a row into the tree, which has none of its id.
func (t *Tree) add(row api.Row) {
	n := &node{v: slices.Clone(row.V), level: t.levelOf(row.Id)}
	t.nodes[row.Id] = n
	t.introduce(row.Id, n)
	if t.entry == 0 || n.level > t.nodes[t.entry].level {
		t.entry = row.Id
	}
}

// levelOf hangs on the seed and the id alone: how rows came and went does not change it.
func (t *Tree) levelOf(id int) int {
	level, _ := rand.New(t.seed + uint64(id)).Level(api.MaxLevel)
	return level
}

// introduce makes a new row and those near it know one another. The row's own level is above the highest, if it is the first one there.
func (t *Tree) introduce(id int, n *node) {
	best, _ := topk.New(api.MaxK)
	w := t.walkTo(n.v, best, api.MaxRows)
	w.descend(n.level)
	for level := min(n.level, t.Levels()-1); level >= 0; level-- {
		w.spread(level, w.all(), func(next api.Hit) bool {
			worst, _ := best.Worst()
			return best.Full() && topk.Less(worst, next)
		})
		for _, near := range best.List() {
			t.learn(n, level, near)
		}
		for _, near := range n.known[level] {
			t.learn(t.nodes[near.Id], level, api.Hit{Id: id, Dist: near.Dist})
		}
	}
}

// learn lets a row know another one, unless those whom it knows already are the better ones.
func (t *Tree) learn(n *node, level int, other api.Hit) {
	known := n.known[level]
	place, had := slices.BinarySearchFunc(known, other, order)
	if had {
		return
	}
	known = slices.Insert(known, place, other)
	if len(known) > t.most(level) {
		spare := t.spare(known)
		known = slices.Delete(known, spare, spare+1)
	}
	n.known[level] = known
}

// most is how many others a row may know on a level. On the lowest one all rows stand.
func (t *Tree) most(level int) int {
	if level == 0 {
		return 2 * t.links
	}
	return t.links
}

// spare tells at which place one stands whom a row needs least to know: the farthest of those that are nearer to another one whom it knows, as there is a way over that one; else the farthest of all. So a row knows others on all sides, and groups that are far apart hang together.
func (t *Tree) spare(known []api.Hit) int {
	last := len(known) - 1
	for place := last; place > 0; place-- {
		hit := known[place]
		leadsTo := func(other api.Hit) bool { return wide.Cmp(t.between(other.Id, hit.Id), hit.Dist) < 0 }
		// Of rows that are the same as this one none is nearer than nought, and one is enough.
		if hit.Dist == (api.Wide{}) || slices.ContainsFunc(known[:place], leadsTo) {
			return place
		}
	}
	return last
}

// between tells the distance of two rows.
func (t *Tree) between(a, b int) api.Wide {
	far, _ := vec.Dist(t.nodes[a].v, t.nodes[b].v)
	return far
}

// remove takes the row of this id out of the tree, and tells whether there was one.
func (t *Tree) remove(id int) bool {
	gone, had := t.nodes[id]
	if !had {
		return false
	}
	delete(t.nodes, id)
	// Each row forgets it by itself, so that it does not matter which one comes first.
	for other, n := range t.nodes {
		for level := range min(n.level, gone.level) + 1 {
			if n.forget(level, id) {
				t.bridge(other, level, gone)
			}
		}
	}
	if t.entry == id {
		t.entry = t.highest()
	}
	return true
}

// forget tells whether the row knew the one of this id on that level.
func (n *node) forget(level, id int) bool {
	place := slices.IndexFunc(n.known[level], func(other api.Hit) bool { return other.Id == id })
	if place < 0 {
		return false
	}
	n.known[level] = slices.Delete(n.known[level], place, place+1)
	return true
}

// bridge lets a row know those whom one that is gone knew, as it had its way to them over that one.
func (t *Tree) bridge(id, level int, gone *node) {
	for _, other := range gone.known[level] {
		if other.Id != id {
			t.learn(t.nodes[id], level, api.Hit{Id: other.Id, Dist: t.between(id, other.Id)})
		}
	}
}

// highest tells the id of a row on the highest level, the least one; or 0.
func (t *Tree) highest() int {
	entry := 0
	for _, id := range t.ids() {
		if entry == 0 || t.nodes[id].level > t.nodes[entry].level {
			entry = id
		}
	}
	return entry
}

// order is that of hits, as slices asks for it.
func order(a, b api.Hit) int {
	return cmp.Or(wide.Cmp(a.Dist, b.Dist), cmp.Compare(a.Id, b.Id))
}
