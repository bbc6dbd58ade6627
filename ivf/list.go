package ivf

import (
	"cmp"
	"slices"

	"theodolite/api"
	"theodolite/kmeans"
	"theodolite/vec"
	"theodolite/wide"
)

// list is the rows to which one centre is the nearest; there is one at least.
type list struct {
	ball api.Region // round the centre: the least one in which all rows lie, with their ids
	rows []api.Row  // by rising ids, so that they stand in the order of the ball's ids
}

// centresOf makes the centres of rows that stand by rising ids: at most as many as lists says.
func centresOf(rows []api.Row, dim, lists, rounds int, seed uint64) [][]int {
	if len(rows) == 0 {
		return [][]int{make([]int, dim)}
	}
	vectors := make([][]int, 0, len(rows))
	for _, row := range rows {
		vectors = append(vectors, row.V)
	}
	// Rows and numbers were checked, and there are no more centres than rows: nothing keeps them from being made.
	centres, _ := kmeans.Train(vectors, min(lists, len(rows)), rounds, seed)
	return centres
}

// layOut makes the lists of rows that stand by rising ids. It takes the rows' memory over.
func (t *Tree) layOut(rows []api.Row) {
	for _, row := range rows {
		t.places[row.Id] = t.placeOf(row)
	}
	slices.SortStableFunc(rows, func(a, b api.Row) int { return cmp.Compare(t.places[a.Id], t.places[b.Id]) })
	for len(rows) > 0 {
		place, count := t.places[rows[0].Id], 1
		for count < len(rows) && t.places[rows[count].Id] == place {
			count++
		}
		// The next list's rows stand behind these: without room behind it a list that grows moves away, and writes over none of them.
		t.keep(place, rows[:count:count])
		rows = rows[count:]
	}
}

// keep makes these rows the list of the centre at that place.
func (t *Tree) keep(place int, rows []api.Row) {
	if len(rows) == 0 {
		delete(t.lists, place)
		return
	}
	// The ball is fitted anew here, as a search could do so only by looking at the rows.
	ball, _ := vec.Ball(t.centres[place], rows)
	t.lists[place] = list{ball: ball, rows: rows}
}

// add lays a row into its list. The tree has none of its id.
func (t *Tree) add(row api.Row) {
	place := t.placeOf(row)
	rows := t.lists[place].rows
	at := placeAmong(rows, row.Id)
	t.keep(place, slices.Insert(rows, at, row))
	t.places[row.Id] = place
}

// remove takes the row of this id out of its list, and tells whether there was one.
func (t *Tree) remove(id int) bool {
	place, had := t.places[id]
	if !had {
		return false
	}
	rows := t.lists[place].rows
	at := placeAmong(rows, id)
	t.keep(place, slices.Delete(rows, at, at+1))
	delete(t.places, id)
	return true
}

// placeOf tells the place of the centre that is nearest to a row that was checked.
func (t *Tree) placeOf(row api.Row) int {
	place, _, _ := kmeans.Near(t.centres, row.V)
	return place
}

// outward lists the places of all centres, the nearest to q first, of those that are as near the first ones first.
func (t *Tree) outward(q []int) []int {
	places := make([]int, 0, len(t.centres))
	far := make([]api.Wide, 0, len(t.centres))
	for place, centre := range t.centres {
		away, _ := vec.Dist(centre, q)
		places, far = append(places, place), append(far, away)
	}
	slices.SortStableFunc(places, func(a, b int) int { return wide.Cmp(far[a], far[b]) })
	return places
}

// placeAmong tells at which place of rows that stand by rising ids the one of this id stands, or would stand.
func placeAmong(rows []api.Row, id int) int {
	at, _ := slices.BinarySearchFunc(rows, id, func(row api.Row, id int) int { return cmp.Compare(row.Id, id) })
	return at
}

// byId is the order of rising ids.
func byId(a, b api.Row) int { return cmp.Compare(a.Id, b.Id) }

// copies gives the same rows in memory of their own.
func copies(rows []api.Row) []api.Row {
	own := make([]api.Row, 0, len(rows))
	for _, row := range rows {
		own = append(own, api.Row{Id: row.Id, V: slices.Clone(row.V)})
	}
	return own
}
