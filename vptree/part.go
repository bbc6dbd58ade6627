package vptree

import (
	"cmp"
	"slices"

	"theodolite/api"
	"theodolite/topk"
	"theodolite/vec"
	"theodolite/wide"
)

// part is a ball with the rows in it; or, if it is cut, with two lesser parts that have them.
type part struct {
	ball api.Region // in which its rows lie, without their ids
	rows []api.Row  // none, if it is cut
	// border divides the rows by their hits for the ball's centre: those that are less are near.
	// As no two hits are the same, any rows can be cut in two, even if all their vectors are the same.
	border    api.Hit
	near, far *part // nil, if it is not cut; else both have rows
}

// measured is a row, and its hit for a ball's centre.
type measured struct {
	row api.Row
	hit api.Hit
}

// partsOf cuts the rows in two, and these again, till none has more than leaf. Without rows it is nil.
func (t *Tree) partsOf(rows []api.Row) *part {
	var cut func(rows []api.Row) *part
	cut = func(rows []api.Row) *part {
		if len(rows) == 0 {
			return nil
		}
		p := &part{ball: t.ballOf(rows)}
		if len(rows) <= t.leaf {
			p.rows = slices.Clone(rows)
			return p
		}
		ordered, middle := p.outward(rows), len(rows)/2
		p.border = p.hit(ordered[middle])
		p.near, p.far = cut(ordered[:middle]), cut(ordered[middle:])
		return p
	}
	return cut(rows)
}

// ballOf lays a ball round one of the rows, in which all of them lie.
func (t *Tree) ballOf(rows []api.Row) api.Region {
	// There is a row, and all were checked: nothing can be wrong with the draw, nor with the ball.
	place, _ := t.centres.Below(len(rows))
	ball, _ := vec.Ball(rows[place].V, rows)
	// The ids would have to be kept up with each change in all balls round it; they are gathered when they are told.
	ball.Ids = nil
	return ball
}

// lead takes a row down to the part that is not cut where it belongs. All balls on its way come to reach as far as it is.
func (p *part) lead(row api.Row) *part {
down:
	for {
		hit := p.hit(row)
		if wide.Cmp(hit.Dist, p.ball.Radius) > 0 {
			p.ball.Radius = hit.Dist
		}
		switch {
		case !p.isCut():
			break down
		case topk.Less(hit, p.border):
			p = p.near
		default:
			p = p.far
		}
	}
	return p
}

// without is the part p once the row is gone; nil, if none is left.
// Balls that are cut stay as great as they were: to take one apart costs no look at a row, and those that are not cut fit theirs.
func (t *Tree) without(p *part, row api.Row) *part {
	switch {
	case !p.isCut():
		return t.partsOf(slices.DeleteFunc(p.rows, func(other api.Row) bool { return other.Id == row.Id }))
	case topk.Less(p.hit(row), p.border):
		p.near = t.without(p.near, row)
	default:
		p.far = t.without(p.far, row)
	}
	// A part of which one half is gone is the other half: so there are never more parts than twice the rows.
	switch {
	case p.near == nil:
		return p.far
	case p.far == nil:
		return p.near
	}
	return p
}

// isCut tells whether the rows are in lesser parts.
func (p *part) isCut() bool { return p.near != nil }

// hit is the row's, for the ball's centre.
func (p *part) hit(row api.Row) api.Hit {
	far, _ := vec.Dist(p.ball.Lo, row.V)
	return api.Hit{Id: row.Id, Dist: far}
}

// outward lists the rows in the order of their hits for the ball's centre.
func (p *part) outward(rows []api.Row) []api.Row {
	all := make([]measured, 0, len(rows))
	for _, row := range rows {
		all = append(all, measured{row: row, hit: p.hit(row)})
	}
	slices.SortFunc(all, func(a, b measured) int {
		return cmp.Or(wide.Cmp(a.hit.Dist, b.hit.Dist), cmp.Compare(a.hit.Id, b.hit.Id))
	})
	ordered := make([]api.Row, 0, len(rows))
	for _, one := range all {
		ordered = append(ordered, one.row)
	}
	return ordered
}

// ids lists the ids of the rows in the part, rising.
func (p *part) ids() []int {
	var ids []int
	var gather func(p *part)
	gather = func(p *part) {
		if p.isCut() {
			gather(p.near)
			gather(p.far)
		}
		for _, row := range p.rows {
			ids = append(ids, row.Id)
		}
	}
	gather(p)
	slices.Sort(ids)
	return ids
}

// region tells the part as an answer does.
func (p *part) region() api.Region {
	return api.Region{Shape: api.ShapeBall, Lo: slices.Clone(p.ball.Lo), Radius: p.ball.Radius, Ids: p.ids()}
}
