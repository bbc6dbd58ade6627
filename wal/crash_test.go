package wal

import (
	"fmt"
	"slices"
	"testing"

	"theodolite/api"
	"theodolite/disk"
)

// newTold is a log on a new disk, beside so many files of others.
func newTold(t *testing.T, room, others int) *told {
	t.Helper()
	h := &told{t: t, d: newDisk(t, room)}
	h.note("room %d, %d other files", room, others)
	for i := range others {
		if e := h.d.Create(fmt.Sprint("other", i)); e != api.OK {
			t.Fatal(e)
		}
	}
	if e := h.d.SyncDir(); e != api.OK {
		t.Fatal(e)
	}
	return h
}

// isDisks tells whether e may come of a disk that is stopped, or has too little room or too few names.
func isDisks(e api.Errno) bool {
	return e == api.OK || e == api.ErrDiskDown || e == api.ErrDiskFull || e == api.ErrDiskMany
}

// act does something that is drawn.
func (h *told) act(draw func(int) int) api.Errno {
	switch draw(12) {
	case 0, 1, 2:
		return h.append(h.text([]int{0, 1, 9, 30, 200}[draw(5)]))
	case 3, 4:
		return h.append(h.text(draw(9000)))
	case 5:
		return h.append(h.text([]int{16375, 16376, 30000, api.MaxRecord}[draw(4)]))
	case 6, 7:
		return h.sync()
	case 8:
		return h.cut(draw(h.p.last() + 1))
	case 9:
		return h.cut(h.p.last())
	case 10:
		return h.open()
	}
	h.note("stop")
	return h.d.Stop(draw(6))
}

// fall crashes the disk, and opens the log, perhaps not at the first go.
func (h *told) fall(draw func(int) int) {
	h.t.Helper()
	choices := make([]int, draw(6))
	for i := range choices {
		choices[i] = draw(40000) - 20000
		if i == 0 || draw(2) == 0 {
			choices[i] = draw(30)
		}
	}
	h.crash(choices...)
	if draw(3) == 0 {
		h.d.Stop(draw(4))
	}
	if e := h.open(); e == api.ErrDiskDown {
		h.fall(draw)
	} else if e != api.OK {
		h.t.Fatalf("%v: P18.1: Open: %d", h.story, e)
	}
}

// Drawn histories, on disks with much and with little room, and with few names left, are as the chapter says.
func TestDrawn(t *testing.T) {
	t.Parallel()
	kinds := []struct{ room, others int }{{api.MaxRoom, 0}, {api.MaxRoom, 3}, {1000, 0}, {20000, 0}, {60000, 0}, {api.MaxRoom, 58}, {200000, 61}, {api.MaxRoom, 62}}
	for seed := range 240 {
		draw := drawn(uint64(seed))
		kind := kinds[seed%len(kinds)]
		h := newTold(t, kind.room, kind.others)
		if e := h.open(); e != api.OK {
			t.Fatal(h.story, e)
		}
		for range 60 {
			e := h.act(draw)
			if !isDisks(e) {
				t.Fatalf("%v: %d", h.story, e)
			}
			h.check()
			if h.d.Down() || draw(9) == 0 {
				h.fall(draw)
				h.check()
			}
		}
		if n := len(h.d.Names()) - len(logNames(h.d)); n != kind.others && !h.d.Down() {
			t.Fatalf("%v: %d other files are left", h.story, n)
		}
	}
}

// A history that rolls, is torn, is mended and is cut.
var history = []func(h *told) api.Errno{
	(*told).open,
	func(h *told) api.Errno { return h.append("safe") },
	(*told).sync,
	func(h *told) api.Errno { return h.append("") },
	func(h *told) api.Errno { return h.append(h.text(17000)) },
	func(h *told) api.Errno { return h.append("in the second") },
	func(h *told) api.Errno { return h.append(h.text(17000)) },
	func(h *told) api.Errno { return h.append("in the third") },
	func(h *told) api.Errno { return h.cut(4) },
	(*told).sync,
	func(h *told) api.Errno { return h.append(h.text(40)) },
	func(h *told) api.Errno { h.crash(1, 20); return h.open() },
	func(h *told) api.Errno { return h.append("mended") },
	func(h *told) api.Errno { return h.append(h.text(17000)) },
	func(h *told) api.Errno { return h.append("behind that") },
	func(h *told) api.Errno { return h.cut(h.p.last()) },
	func(h *told) api.Errno { return h.append("alone") },
	func(h *told) api.Errno { h.crash(0, -3); return h.open() },
	func(h *told) api.Errno { return h.append("behind noughts") },
	func(h *told) api.Errno { return h.cut(h.p.last()) },
	(*told).sync,
	(*told).open,
}

// What is done behind a crash.
var sequel = []func(h *told) api.Errno{
	(*told).open,
	func(h *told) api.Errno { return h.append("again") },
	(*told).sync,
	func(h *told) api.Errno { return h.append("and again") },
	func(h *told) api.Errno { return h.cut(h.p.last()) },
}

// run does all that on a disk that stops behind so many steps, and tells whether it came to the end.
func (h *told) run(acts []func(h *told) api.Errno, steps int) bool {
	h.t.Helper()
	h.note("stop behind %d", steps)
	end := h.d.Steps() + steps
	for _, act := range acts {
		// A crash on the way lets the disk forget when to stop, so it is told again.
		if e := h.d.Stop(end - h.d.Steps()); e != api.OK {
			return false
		}
		if e := act(h); e == api.ErrDiskDown {
			return false
		} else if e != api.OK {
			h.t.Fatalf("%v: %d", h.story, e)
		}
		h.check()
	}
	return true
}

// crashes calls use with each of the disks, told apart by what is on them, that are left by crashes with so many changes of names and some choices of bytes.
func (h *told) crashes(changes int, use func(c *told)) {
	seen := map[string]bool{}
	for names := range changes {
		for _, b := range [][]int{{0}, {9}, {30}, {-6}, {1 << 40}, {0, 3}, {5, 0, 40}, {-3, -40, -3}} {
			c := h.copied()
			c.crash(slices.Concat([]int{names}, b)...)
			if key := onDisk(c.d); !seen[key] {
				seen[key] = true
				use(c)
			}
		}
	}
}

func onDisk(d *disk.Disk) string {
	key := ""
	for _, name := range d.Names() {
		b, _ := d.Read(name)
		key += fmt.Sprintf("%s %d %s ", name, len(b), b)
	}
	return key
}

// Wherever the history stops, whichever changes of names survive, and whichever bytes: what is opened then is as the chapter says, also if the disk stops again while that is opened, or goes on, and crashes again.
func TestEverywhere(t *testing.T) {
	t.Parallel()
	for steps := 0; ; steps++ {
		h := newTold(t, api.MaxRoom, 0)
		done := h.run(history, steps)
		h.crashes(7, again)
		if done {
			return
		}
	}
}

// again goes on behind a crash, stops at each of the steps, and crashes anew.
func again(h *told) {
	for steps := 0; ; steps++ {
		c := h.copied()
		done := c.run(sequel, steps)
		c.crashes(4, func(c *told) {
			if e := c.open(); e != api.OK {
				c.t.Fatalf("%v: P18.1: Open: %d", c.story, e)
			}
			c.check()
			if e := c.append("on"); e != api.OK {
				c.t.Fatalf("%v: P18.2: Append: %d", c.story, e)
			}
		})
		if done {
			return
		}
	}
}

func newDisk(t *testing.T, room int) *disk.Disk {
	t.Helper()
	d, e := disk.New(room)
	if d == nil || e != api.OK {
		t.Fatalf("disk.New: %d", e)
	}
	return d
}
