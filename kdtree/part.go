package kdtree

import (
	"cmp"
	"slices"

	"theodolite/api"
	"theodolite/vec"
)

// part is a box with the rows in it; or, if it is cut, with two lesser parts that have them.
type part struct {
	box       api.Region // the least one in which its rows lie, without their ids
	rows      []api.Row  // none, if it is cut
	cut       border
	low, high *part // nil, if it is not cut; else both have rows
}

// border divides rows along an axis: by their coordinate there, and by their ids, if that is the same.
// So any rows can be cut in two, even if all their vectors are the same.
type border struct{ axis, at, id int }

// partsOf cuts the rows in two, and these again, till none has more than leaf. Without rows it is nil.
func partsOf(rows []api.Row, leaf int) *part {
	var cut func(rows []api.Row) *part
	cut = func(rows []api.Row) *part {
		if len(rows) == 0 {
			return nil
		}
		box := boxOf(rows)
		if len(rows) <= leaf {
			return &part{box: box, rows: slices.Clone(rows)}
		}
		axis, middle := widest(box), len(rows)/2
		slices.SortFunc(rows, along(axis))
		first := rows[middle]
		return &part{
			box:  box,
			cut:  border{axis: axis, at: first.V[axis], id: first.Id},
			low:  cut(rows[:middle]),
			high: cut(rows[middle:]),
		}
	}
	// Cutting sorts, and the caller's order is the caller's.
	return cut(slices.Clone(rows))
}

// remade is the part once the rows among which row belongs were changed; nil, if none is left.
// What is changed may be written into: a part that is not cut has a list of its own, and another part comes into its place.
func (p *part) remade(row api.Row, leaf int, change func(rows []api.Row) []api.Row) *part {
	if p == nil {
		return partsOf(change(nil), leaf)
	}
	if !p.isCut() {
		return partsOf(change(p.rows), leaf)
	}
	if p.cut.isAbove(row) {
		p.low = p.low.remade(row, leaf, change)
	} else {
		p.high = p.high.remade(row, leaf, change)
	}
	// A part of which one half is gone is the other half: so there are never more parts than twice the rows.
	switch {
	case p.low == nil:
		return p.high
	case p.high == nil:
		return p.low
	}
	p.box = around(p.low.box, p.high.box)
	return p
}

// isCut tells whether the rows are in lesser parts.
func (p *part) isCut() bool { return p.low != nil }

// ids lists the ids of the rows in the part, rising.
func (p *part) ids() []int {
	var ids []int
	var gather func(p *part)
	gather = func(p *part) {
		if p.isCut() {
			gather(p.low)
			gather(p.high)
		}
		for _, row := range p.rows {
			ids = append(ids, row.Id)
		}
	}
	gather(p)
	slices.Sort(ids)
	return ids
}

// region tells the part as an answer does.
func (p *part) region() api.Region {
	return api.Region{Shape: api.ShapeBox, Lo: slices.Clone(p.box.Lo), Hi: slices.Clone(p.box.Hi), Ids: p.ids()}
}

// isAbove tells whether the row belongs below the border.
func (b border) isAbove(row api.Row) bool {
	return cmp.Or(cmp.Compare(row.V[b.axis], b.at), cmp.Compare(row.Id, b.id)) < 0
}

// along tells in which order rows stand along an axis.
func along(axis int) func(a, b api.Row) int {
	return func(a, b api.Row) int {
		return cmp.Or(cmp.Compare(a.V[axis], b.V[axis]), cmp.Compare(a.Id, b.Id))
	}
}

// boxOf is the least box in which the rows lie, of which there is one at least.
func boxOf(rows []api.Row) api.Region {
	// All rows here were checked, so that they have a box.
	box, _ := vec.Box(rows, len(rows[0].V))
	// The ids would have to be kept up with each change in all boxes round it; they are gathered when they are told.
	box.Ids = nil
	return box
}

// around is the least box in which two others lie.
func around(a, b api.Region) api.Region {
	low, high := slices.Clone(a.Lo), slices.Clone(a.Hi)
	for i := range low {
		low[i], high[i] = min(low[i], b.Lo[i]), max(high[i], b.Hi[i])
	}
	return api.Region{Shape: api.ShapeBox, Lo: low, Hi: high}
}

// widest is the axis along which the box is longest, the first of several.
func widest(box api.Region) int {
	axis := 0
	for i := range box.Lo {
		if box.Hi[i]-box.Lo[i] > box.Hi[axis]-box.Lo[axis] {
			axis = i
		}
	}
	return axis
}
