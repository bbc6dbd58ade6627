package backend

import (
	"cmp"
	"slices"

	"theodolite/api"
	"theodolite/flat"
	"theodolite/vec"
)

// plain is KindFlat: package flat keeps no rows, so what the other kinds have for it is embedded.
type plain struct{ table }

// table is rows that come and go.
type table struct {
	dim  int
	rows []api.Row // by rising ids
}

// plainOf makes a flat index of rows that were checked.
func plainOf(dim int, rows []api.Row) *plain {
	own := copies(rows)
	slices.SortFunc(own, func(a, b api.Row) int { return cmp.Compare(a.Id, b.Id) })
	return &plain{table{dim: dim, rows: own}}
}

// Search looks at the rows by rising ids, as many as the budget allows.
func (p *plain) Search(q []int, k, budget int) (api.Answer, api.Errno) {
	// Without rows flat knows no dimension but q's own.
	if e := vec.Check(q, p.dim); e != api.OK {
		return api.Answer{}, e
	}
	return flat.Search(p.rows, q, k, budget)
}

// Put lays a row into its place, and tells whether no row had its id.
func (t *table) Put(row api.Row) (bool, api.Errno) {
	if row.Id < 1 || row.Id > api.MaxId {
		return false, api.ErrFlatId
	}
	if e := vec.Check(row.V, t.dim); e != api.OK {
		return false, e
	}
	place, had := t.find(row.Id)
	if !had && len(t.rows) >= api.MaxRows {
		return false, api.ErrLong
	}
	own := api.Row{Id: row.Id, V: slices.Clone(row.V)}
	if had {
		t.rows[place] = own
	} else {
		t.rows = slices.Insert(t.rows, place, own)
	}
	return !had, api.OK
}

// Delete takes the row of this id away, and tells whether there was one.
func (t *table) Delete(id int) (bool, api.Errno) {
	place, had := t.find(id)
	if had {
		t.rows = slices.Delete(t.rows, place, place+1)
	}
	return had, api.OK
}

// Len tells how many rows there are.
func (t *table) Len() int { return len(t.rows) }

// Rows lists the rows by rising ids.
func (t *table) Rows() []api.Row { return copies(t.rows) }

// find tells at which place the row of this id stands, or would stand, and whether there is one.
func (t *table) find(id int) (int, bool) {
	return slices.BinarySearchFunc(t.rows, id, func(row api.Row, id int) int { return cmp.Compare(row.Id, id) })
}

// copies gives the same rows in memory of their own.
func copies(rows []api.Row) []api.Row {
	own := make([]api.Row, 0, len(rows))
	for _, row := range rows {
		own = append(own, api.Row{Id: row.Id, V: slices.Clone(row.V)})
	}
	return own
}
