package store

import (
	"fmt"
	"slices"
	"testing"

	"theodolite/api"
	"theodolite/disk"
)

// isDisks tells whether e may come of a disk that is stopped, or, if its room is little, of a full one.
func isDisks(e api.Errno, little bool) bool {
	return e == api.OK || e == api.ErrDiskDown || little && e == api.ErrDiskFull
}

func (h *told) drawnVector(draw func(int) int) []int {
	v := make([]int, h.p.dim)
	for i := range v {
		v[i] = []int{draw(9) - 4, api.MaxCoord, -api.MaxCoord, draw(1 << 30)}[draw(4)]
	}
	if draw(20) == 0 {
		v[draw(len(v))] = api.MaxCoord + 1
	}
	return v[:len(v)-draw(20)/19]
}

// act does something that is drawn.
func (h *told) act(draw func(int) int) api.Errno {
	switch draw(13) {
	case 0, 1, 2, 3, 4:
		return h.put(draw(7), h.drawnVector(draw)...)
	case 5:
		return h.put(api.MaxId+draw(2), h.drawnVector(draw)...)
	case 6, 7:
		return h.delete(draw(7))
	case 8, 9:
		return h.sync()
	case 10:
		return h.snapshot()
	case 11:
		return h.open()
	}
	h.note("stop")
	return h.d.Stop(draw(8))
}

// fall crashes the disk, and opens the store, perhaps not at the first go.
func (h *told) fall(draw func(int) int) {
	h.t.Helper()
	choices := make([]int, draw(5))
	for i := range choices {
		choices[i] = draw(40000) - 20000
		if i == 0 || draw(2) == 0 {
			choices[i] = draw(30)
		}
	}
	h.crash(choices...)
	if draw(3) == 0 {
		h.d.Stop(draw(6))
	}
	if e := h.open(); e == api.ErrDiskDown {
		h.fall(draw)
	} else if e != api.OK {
		h.fail(fmt.Sprintf("P19.1: Open: %d", e))
	}
}

// Drawn histories, on disks with much and with little room, are as the chapter says.
func TestDrawn(t *testing.T) {
	t.Parallel()
	kinds := []struct{ room, dim int }{{api.MaxRoom, 2}, {api.MaxRoom, 1}, {1500, 2}, {api.MaxRoom, 64}, {400, 1}, {3000, 9}}
	for seed := range 900 {
		draw := drawn(uint64(seed))
		kind := kinds[seed%len(kinds)]
		h := newTold(t, kind.room, kind.dim)
		if e := h.open(); e != api.OK {
			h.fail(fmt.Sprintf("P19.1: Open: %d", e))
		}
		for range 70 {
			e := h.act(draw)
			if !isDisks(e, kind.room < api.MaxRoom) {
				h.fail(fmt.Sprint("it answers ", e))
			}
			h.check()
			if h.d.Down() || draw(12) == 0 {
				h.fall(draw)
			}
		}
	}
}

// A history in which rows come and go, and are saved twice, once behind a crash.
var history = []func(h *told) api.Errno{
	(*told).open,
	func(h *told) api.Errno { return h.put(1, 3, 4) },
	(*told).sync,
	func(h *told) api.Errno { return h.put(2, 5, 5) },
	func(h *told) api.Errno { return h.delete(1) },
	(*told).snapshot,
	func(h *told) api.Errno { return h.put(3, 0, -1) },
	func(h *told) api.Errno { return h.put(2, 6, 6) },
	func(h *told) api.Errno { h.crash(1, 20); return h.open() },
	func(h *told) api.Errno { return h.delete(2) },
	func(h *told) api.Errno { return h.put(7, 7, 7) },
	(*told).snapshot,
	func(h *told) api.Errno { return h.put(4, 1, 1) },
	func(h *told) api.Errno { h.crash(0, -3, -3); return h.open() },
	(*told).snapshot,
	(*told).snapshot,
	func(h *told) api.Errno { return h.delete(7) },
	(*told).sync,
	(*told).open,
}

// A history in which the log has several files.
var long = []func(h *told) api.Errno{
	(*told).open,
	func(h *told) api.Errno { return h.many(130) },
	(*told).snapshot,
	func(h *told) api.Errno { return h.many(70) },
	func(h *told) api.Errno { h.crash(1, 20); return h.open() },
	func(h *told) api.Errno { return h.many(3) },
	(*told).snapshot,
}

// What is done behind a crash.
var sequel = []func(h *told) api.Errno{
	(*told).open,
	func(h *told) api.Errno { return h.put(5, 8, 8) },
	(*told).snapshot,
	func(h *told) api.Errno { return h.delete(5) },
}

// many does so many changes.
func (h *told) many(n int) api.Errno {
	for i := range n {
		if e := h.put(1+i%9, slices.Repeat([]int{len(h.p.changes)}, h.p.dim)...); e != api.OK {
			return e
		}
	}
	return api.OK
}

// run does all that on a disk that stops behind so many steps, and tells whether it came to the end.
func (h *told) run(acts []func(h *told) api.Errno, steps int) bool {
	h.t.Helper()
	h.note("stop behind %d", steps)
	end := h.d.Steps() + steps
	for _, act := range acts {
		// A crash on the way lets the disk forget when to stop, so it is told again.
		if e := h.d.Stop(end - h.d.Steps()); e != api.OK {
			return false
		}
		if e := act(h); e == api.ErrDiskDown {
			return false
		} else if e != api.OK {
			h.fail(fmt.Sprint("it answers ", e))
		}
		h.check()
	}
	return true
}

// crashes calls use with each of the disks, told apart by what is on them, that are left by crashes with so many changes of names and some choices of bytes.
func (h *told) crashes(changes int, use func(c *told)) {
	seen := map[string]bool{}
	for names := range changes {
		for _, b := range [][]int{{0}, {9}, {30, 30}, {-6, -6}, {1 << 40, 1 << 40, 1 << 40}, {0, 3}, {5, 0, 40}} {
			c := h.copied()
			c.crash(slices.Concat([]int{names}, b)...)
			if key := onDisk(c.d); !seen[key] {
				seen[key] = true
				use(c)
			}
		}
	}
}

func onDisk(d *disk.Disk) string {
	key := ""
	for _, name := range d.Names() {
		b, _ := d.Read(name)
		key += fmt.Sprintf("%s %d %s ", name, len(b), b)
	}
	return key
}

// Wherever the history stops, whichever changes of names survive, and whichever bytes: what is opened then is as the chapter says, also if the disk stops again while that is opened, or goes on, and crashes again.
func TestEverywhere(t *testing.T) {
	t.Parallel()
	for steps := 0; ; steps++ {
		h := newTold(t, api.MaxRoom, 2)
		done := h.run(history, steps)
		h.crashes(7, again)
		if done {
			return
		}
	}
}

// again goes on behind a crash, stops at each of the steps, and crashes anew.
func again(h *told) {
	for steps := 0; ; steps++ {
		c := h.copied()
		done := c.run(sequel, steps)
		c.crashes(5, goesOn)
		if done {
			return
		}
	}
}

// goesOn opens the store, and changes it.
func goesOn(h *told) {
	h.t.Helper()
	if e := h.open(); e != api.OK {
		h.fail(fmt.Sprintf("P19.1: Open: %d", e))
	}
	if e := h.put(6, slices.Repeat([]int{9}, h.p.dim)...); e != api.OK {
		h.fail(fmt.Sprintf("P19.2: Put: %d", e))
	}
	h.check()
}

// The same where the log has several files, which a Snapshot removes one by one, and a crash brings back.
func TestLongEverywhere(t *testing.T) {
	t.Parallel()
	for steps := 0; ; steps++ {
		h := newTold(t, api.MaxRoom, 64)
		done := h.run(long, steps)
		h.crashes(9, goesOn)
		if done {
			return
		}
	}
}
