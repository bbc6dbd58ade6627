package engine

import (
	"fmt"
	"slices"
	"testing"

	"theodolite/api"
	"theodolite/disk"
)

// isDisks tells whether e may come of a disk that is stopped, or, if its room is little, of a full one.
func isDisks(e api.Errno, little bool) bool {
	return e == api.OK || e == api.ErrDiskDown || little && e == api.ErrDiskFull
}

func (h *told) drawnVector(draw func(int) int) []int {
	v := make([]int, h.p.dim)
	for i := range v {
		v[i] = []int{draw(9) - 4, draw(99), draw(99), []int{api.MaxCoord, -api.MaxCoord, draw(1 << 30)}[draw(3)]}[draw(4)]
	}
	if draw(40) == 0 {
		v[draw(len(v))] = api.MaxCoord + 1
	}
	return v[:len(v)-draw(40)/39]
}

func (h *told) drawnQuery(draw func(int) int) api.Query {
	q := api.Query{V: h.drawnVector(draw), K: 1 + draw(4), Mode: api.ModeExact}
	if draw(2) == 0 {
		q.Mode, q.Budget = api.ModeFast, draw(12)
	}
	switch draw(60) {
	case 0:
		q.K = []int{0, 65, 64}[draw(3)]
	case 1:
		q.Mode = api.Mode(draw(5) - 1)
	case 2:
		q.Budget = []int{-1, 1000000, 1000001}[draw(3)]
	}
	return q
}

// act does something that is drawn.
func (h *told) act(draw func(int) int) api.Errno {
	switch draw(24) {
	case 0, 1, 2, 3, 4, 5:
		return h.put(draw(30), h.drawnVector(draw)...)
	case 6:
		return h.put(api.MaxId+draw(2), h.drawnVector(draw)...)
	case 7, 8, 9:
		return h.delete(draw(30))
	case 10, 11, 12, 13, 14:
		return h.query(h.drawnQuery(draw))
	case 15, 16:
		return h.reindex(texts()[draw(len(texts()))])
	case 17, 18, 19:
		return h.step([]int{1, 2, 3, draw(20), 1000, 1001}[draw(6)])
	case 20:
		if draw(3) == 0 {
			return h.drop()
		}
	case 21:
		return h.snapshot()
	case 22:
		if draw(4) == 0 {
			return h.open()
		}
	}
	if draw(4) == 0 {
		return h.stop(draw(8))
	}
	return api.OK
}

// fall crashes the disk, and opens the engine, perhaps not at the first go.
func (h *told) fall(draw func(int) int) {
	h.t.Helper()
	choices := make([]int, draw(5))
	for i := range choices {
		choices[i] = draw(40000) - 20000
		if i == 0 || draw(2) == 0 {
			choices[i] = draw(30)
		}
	}
	h.crash(choices...)
	if draw(3) == 0 {
		h.stop(draw(6))
	}
	if e := h.open(); e == api.ErrDiskDown {
		h.fall(draw)
	} else if e != api.OK {
		h.fail("P21.1: Open: %d", e)
	}
}

// Drawn histories, on disks with much and with little room, are as the chapter says, by whatever way.
func TestDrawn(t *testing.T) {
	t.Parallel()
	kinds := []struct{ room, dim int }{{api.MaxRoom, 2}, {api.MaxRoom, 1}, {2000, 2}, {api.MaxRoom, 4}, {api.MaxRoom, 6}, {700, 1}}
	for seed := range 330 {
		draw := drawn(uint64(seed))
		kind := kinds[seed%len(kinds)]
		way := texts()[seed/2%len(texts())]
		if ways()[way].Parts > 1 && kind.dim%2 == 1 {
			way = "KD1"
		}
		h := newTold(t, kind.room, kind.dim, way)
		if e := h.open(); e != api.OK {
			h.fail("P21.1: Open: %d", e)
		}
		for range 120 {
			if e := h.act(draw); !isDisks(e, kind.room < api.MaxRoom) {
				h.fail("it answers %d", e)
			}
			if h.d.Down() && draw(3) > 0 || draw(60) == 0 {
				h.fall(draw)
			}
		}
	}
}

// A history in which rows come and go, while the engine is built anew, and are saved.
var history = []func(h *told) api.Errno{
	(*told).open,
	func(h *told) api.Errno { return h.put(1, 3, 4) },
	func(h *told) api.Errno { return h.put(2, 5, 5) },
	func(h *told) api.Errno { return h.reindex("VP1") },
	func(h *told) api.Errno { return h.delete(1) },
	(*told).snapshot,
	func(h *told) api.Errno { return h.put(3, 0, -1) },
	func(h *told) api.Errno { return h.step(2) },
	func(h *told) api.Errno { return h.put(2, 6, 6) },
	func(h *told) api.Errno { return h.step(9) },
	func(h *told) api.Errno { return h.reindex("IVF3,PQ2x4") },
	func(h *told) api.Errno { return h.step(1) },
	func(h *told) api.Errno { h.crash(1, 20); return h.open() },
	func(h *told) api.Errno { return h.delete(2) },
	(*told).snapshot,
	func(h *told) api.Errno { return h.put(4, 1, 1) },
	(*told).open,
}

// nearest asks for all rows.
func (h *told) nearest() {
	h.t.Helper()
	for _, q := range []api.Query{{K: 64, Mode: api.ModeExact}, {K: 1, Mode: api.ModeExact}, {K: 2, Mode: api.ModeFast, Budget: 2}} {
		q.V = slices.Repeat([]int{4}, h.p.dim)
		h.query(q)
	}
}

// run does all that on a disk that stops behind so many steps, and tells whether it came to the end.
func (h *told) run(acts []func(h *told) api.Errno, steps int) bool {
	h.t.Helper()
	end := h.d.Steps() + steps
	for _, act := range acts {
		// A crash on the way lets the disk forget when to stop, so it is told again.
		if e := h.stop(end - h.d.Steps()); e != api.OK {
			return false
		}
		e := act(h)
		if h.g != nil {
			h.nearest()
		}
		if e == api.ErrDiskDown {
			return false
		} else if e != api.OK {
			h.fail("it answers %d", e)
		}
	}
	return true
}

// crashes calls use with each of the disks, told apart by what is on them, that are left by crashes with so many changes of names and some choices of bytes.
func (h *told) crashes(changes int, use func(c *told)) {
	seen := map[string]bool{}
	for names := range changes {
		for _, b := range [][]int{{0}, {9}, {30, 30}, {-6, -6}, {1 << 40, 1 << 40, 1 << 40}, {0, 3}, {5, 0, 40}} {
			c := h.copied()
			c.crash(slices.Concat([]int{names}, b)...)
			if key := onDisk(c.d); !seen[key] {
				seen[key] = true
				use(c)
			}
		}
	}
}

func onDisk(d *disk.Disk) string {
	key := ""
	for _, name := range d.Names() {
		b, _ := d.Read(name)
		key += fmt.Sprintf("%s %d %s ", name, len(b), b)
	}
	return key
}

// Wherever the history stops, and however the disk crashes then: the engine that is opened on it has what was answered OK, is not being built anew, and goes on.
func TestEverywhere(t *testing.T) {
	t.Parallel()
	for steps := 0; ; steps++ {
		h := newTold(t, api.MaxRoom, 2, "KD1")
		done := h.run(history, steps)
		h.crashes(9, goesOn)
		if done {
			return
		}
	}
}

func goesOn(h *told) {
	h.t.Helper()
	if e := h.open(); e != api.OK {
		h.fail("P21.1: Open: %d", e)
	}
	h.nearest()
	h.reindex("HNSW1")
	if e := h.put(6, 9, 9); e != api.OK {
		h.fail("P21.2: Put: %d", e)
	}
	h.step(1000)
	h.nearest()
}
