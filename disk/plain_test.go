package disk

import (
	"cmp"
	"fmt"
	"slices"
	"strings"
	"testing"

	"theodolite/api"
)

// plain says the chapter anew, to hold disks against: it keeps no changes, but all names as each change left them.
type plain struct {
	room, steps, end int           // the disk stops when there were end steps; -1: it does not
	states           [][]plainName // the first are the safe names, the last those of now
}

type plainName struct {
	name string
	file *plainFile
}

type plainFile struct {
	bytes string
	safe  int
}

func newPlain(room int) *plain { return &plain{room: room, end: -1, states: [][]plainName{nil}} }

func (p *plain) down() bool { return p.end == p.steps }

func (p *plain) now() []plainName { return p.states[len(p.states)-1] }

func (p *plain) file(name string) *plainFile {
	for _, x := range p.now() {
		if x.name == name {
			return x.file
		}
	}
	return nil
}

func (p *plain) used() int {
	n := 0
	for _, x := range p.now() {
		n += len(x.file.bytes)
	}
	return n
}

// change adds the names as they are without those that are gone, and with one more, unless it is empty.
func (p *plain) change(more string, f *plainFile, gone ...string) {
	left := slices.DeleteFunc(slices.Clone(p.now()), func(x plainName) bool { return slices.Contains(gone, x.name) })
	if more != "" {
		left = append(left, plainName{more, f})
	}
	slices.SortFunc(left, func(a, b plainName) int { return cmp.Compare(a.name, b.name) })
	p.states = append(p.states, left)
}

func plainIsName(s string) bool {
	return len(s) >= 1 && len(s) <= 32 && strings.Trim(s, "abcdefghijklmnopqrstuvwxyz0123456789.-") == ""
}

// plainShare counts c down by n + 1 as long as it can; not for great numbers.
func plainShare(c, n int) int {
	if c < 0 {
		c = -(c + 1)
	}
	for c >= n+1 {
		c -= n + 1
	}
	return c
}

func (p *plain) crash(choices []int) {
	next := func() int {
		if len(choices) == 0 {
			return 0
		}
		c := choices[0]
		choices = choices[1:]
		return c
	}
	p.end = -1
	state := p.states[plainShare(next(), len(p.states)-1)]
	for _, x := range state {
		c := next()
		behind := x.file.bytes[x.file.safe:]
		behind = behind[:plainShare(c, len(behind))]
		if c < 0 {
			behind = strings.Repeat("\x00", len(behind))
		}
		x.file.bytes = x.file.bytes[:x.file.safe] + behind
		x.file.safe = len(x.file.bytes)
	}
	p.states = [][]plainName{state}
}

func (p *plain) clone() *plain {
	twins := map[*plainFile]*plainFile{}
	q := &plain{room: p.room, steps: p.steps, end: p.end}
	for _, state := range p.states {
		var names []plainName
		for _, x := range state {
			if twins[x.file] == nil {
				f := *x.file
				twins[x.file] = &f
			}
			names = append(names, plainName{x.name, twins[x.file]})
		}
		q.states = append(q.states, names)
	}
	return q
}

// deed is a call that may change a disk.
type deed struct {
	what     string
	name, to string
	bytes    string
	steps    int
	choices  []int
}

func (o deed) String() string {
	switch o.what {
	case "Append":
		return fmt.Sprintf("Append(%q, %x)", o.name, o.bytes)
	case "Rename":
		return fmt.Sprintf("Rename(%q, %q)", o.name, o.to)
	case "SyncDir":
		return "SyncDir()"
	case "Stop":
		return fmt.Sprintf("Stop(%d)", o.steps)
	case "Crash":
		return fmt.Sprintf("Crash%v", o.choices)
	}
	return fmt.Sprintf("%s(%q)", o.what, o.name)
}

// do is what the disk answers.
func (o deed) do(d *Disk) api.Errno {
	switch o.what {
	case "Create":
		return d.Create(o.name)
	case "Append":
		return d.Append(o.name, []byte(o.bytes))
	case "Sync":
		return d.Sync(o.name)
	case "Rename":
		return d.Rename(o.name, o.to)
	case "Remove":
		return d.Remove(o.name)
	case "SyncDir":
		return d.SyncDir()
	case "Stop":
		return d.Stop(o.steps)
	}
	return d.Crash(o.choices...)
}

// wrong is the error that the chapter asks for.
func (o deed) wrong(p *plain) api.Errno {
	f := p.file(o.name)
	needs := slices.Contains([]string{"Append", "Sync", "Rename", "Remove"}, o.what)
	switch {
	case o.what == "Crash":
		return api.OK
	case p.down():
		return api.ErrDiskDown
	case o.what == "Stop" && o.steps < 0:
		return api.ErrArg
	case o.what == "Create" && !plainIsName(o.name):
		return api.ErrDiskName
	case o.what == "Create" && f != nil:
		return api.ErrDiskThere
	case o.what == "Create" && len(p.now()) >= 64:
		return api.ErrDiskMany
	case needs && f == nil:
		return api.ErrDiskNone
	case o.what == "Append" && p.used()+len(o.bytes) > p.room:
		return api.ErrDiskFull
	case o.what == "Rename" && !plainIsName(o.to):
		return api.ErrDiskName
	}
	return api.OK
}

// plainly is what the chapter asks for.
func (o deed) plainly(p *plain) api.Errno {
	if e := o.wrong(p); e != api.OK {
		return e
	}
	f := p.file(o.name)
	switch o.what {
	case "Create":
		p.change(o.name, &plainFile{})
	case "Append":
		f.bytes += o.bytes
	case "Sync":
		f.safe = len(f.bytes)
	case "Rename":
		p.change(o.to, f, o.name, o.to)
	case "Remove":
		p.change("", nil, o.name)
	case "SyncDir":
		p.states = [][]plainName{p.now()}
	case "Stop":
		p.end = p.steps + o.steps
		return api.OK
	case "Crash":
		p.crash(o.choices)
		return api.OK
	}
	p.steps++
	return api.OK
}

// tells is all that a disk tells.
func tells(d *Disk) string {
	var b strings.Builder
	names := d.Names()
	for _, name := range names {
		bytes, e := d.Read(name)
		fmt.Fprintf(&b, "%s %x %d; ", name, bytes, e)
	}
	for _, name := range []string{"", "a", "b", "none", "A"} {
		if bytes, e := d.Read(name); !slices.Contains(names, name) {
			fmt.Fprintf(&b, "%q %x %d; ", name, bytes, e)
		}
	}
	fmt.Fprintf(&b, "%d bytes, %d steps, %v", d.Used(), d.Steps(), d.Down())
	return b.String()
}

// tells is all that a disk should tell.
func (p *plain) tells() string {
	var b strings.Builder
	state, used, wrong := p.now(), p.used(), api.ErrDiskNone
	if p.down() {
		state, used, wrong = nil, 0, api.ErrDiskDown
	}
	for _, x := range state {
		fmt.Fprintf(&b, "%s %x %d; ", x.name, x.file.bytes, api.OK)
	}
	for _, name := range []string{"", "a", "b", "none", "A"} {
		if p.file(name) == nil || p.down() {
			fmt.Fprintf(&b, "%q  %d; ", name, wrong)
		}
	}
	fmt.Fprintf(&b, "%d bytes, %d steps, %v", used, p.steps, p.down())
	return b.String()
}

func same(t *testing.T, d *Disk, p *plain, done []deed) {
	t.Helper()
	if got, want := tells(d), p.tells(); got != want {
		t.Fatalf("behind %v:\n%s: want\n%s", done, got, want)
	}
}

// drawn is a stream of numbers that the seed tells.
func drawn(seed uint64) func(int) int {
	return func(n int) int {
		seed = seed*6364136223846793005 + 1442695040888963407
		return int((seed >> 33) % uint64(n))
	}
}

func drawnChoices(draw func(int) int) []int {
	var choices []int
	for range draw(8) {
		choices = append(choices, draw(25)-10)
	}
	return choices
}

// drawnDeed is one that is often OK, of names of which most are files'; crashes and stops are rare.
func drawnDeed(draw func(int) int) deed {
	names := []string{"a", "b", "c", "d", "a", "b", "c", "none", "A", ""}
	o := deed{name: names[draw(10)], to: names[draw(10)]}
	switch n := draw(60); {
	case n < 14:
		o.what = "Create"
	case n < 30:
		o.what, o.bytes = "Append", strings.Repeat(string(rune('p'+draw(9))), draw(5))
	case n < 38:
		o.what = "Sync"
	case n < 46:
		o.what = "Rename"
	case n < 52:
		o.what = "Remove"
	case n < 57:
		o.what = "SyncDir"
	case n < 59:
		o.what, o.steps = "Stop", draw(12)-1
	default:
		o.what, o.choices = "Crash", drawnChoices(draw)
	}
	return o
}
