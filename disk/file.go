package disk

import (
	"maps"
	"slices"

	"theodolite/api"
)

// maxName is how many bytes a file's name may have.
const maxName = 32

// file is bytes, of which the first so many as safe says are safe.
type file struct {
	bytes []byte
	safe  int
}

// crashed is what the choice c leaves of a file, all of it safe.
func (f file) crashed(c int) file {
	end := f.safe + share(c, len(f.bytes)-f.safe)
	left := slices.Clone(f.bytes[:end])
	if c < 0 {
		clear(left[f.safe:])
	}
	return file{bytes: left, safe: end}
}

// change is that the name from is gone, and the file of the number has the name to. No file's name is empty: a Create is from none, a Remove to none.
type change struct {
	from, to string
	number   int
}

// apply does the change to names.
func (c change) apply(names map[string]int) {
	delete(names, c.from)
	if c.to != "" {
		names[c.to] = c.number
	}
}

// none tells whether d is no disk that New or Clone gave.
func (d *Disk) none() bool { return d == nil || d.room == 0 }

// refusal is the error that comes ahead of a call's other ones.
func (d *Disk) refusal() api.Errno {
	if d.none() {
		return api.ErrNil
	}
	if d.left == 0 {
		return api.ErrDiskDown
	}
	return api.OK
}

// find is the number of the file that has this name.
func (d *Disk) find(name string) (int, api.Errno) {
	if e := d.refusal(); e != api.OK {
		return 0, e
	}
	number, there := d.names[name]
	if !there {
		return 0, api.ErrDiskNone
	}
	return number, api.OK
}

// alter does a change of names, and remembers it for a crash.
func (d *Disk) alter(c change) {
	c.apply(d.names)
	d.changes = append(d.changes, c)
}

// done counts a step.
func (d *Disk) done() api.Errno {
	d.steps++
	if d.left > 0 {
		d.left--
	}
	return api.OK
}

// settle makes the names that there are now the safe ones. No crash can bring back a file without a name then, so these are forgotten.
func (d *Disk) settle() {
	named := map[int]file{}
	for _, number := range d.names {
		named[number] = d.files[number]
	}
	d.files = named
	d.safe = maps.Clone(d.names)
	d.changes = nil
}

// survivors are the safe names, with as many of the changes since as the choice c says.
func (d *Disk) survivors(c int) map[string]int {
	names := maps.Clone(d.safe)
	for _, since := range d.changes[:share(c, len(d.changes))] {
		since.apply(names)
	}
	return names
}

// choice is the one at the place i, or 0, if it is missing.
func choice(choices []int, i int) int {
	if i < len(choices) {
		return choices[i]
	}
	return 0
}

// share is how many of n things the choice c says.
func share(c, n int) int {
	if c < 0 {
		c = -(c + 1)
	}
	return c % (n + 1)
}

// isName tells whether s is a file's name.
func isName(s string) bool {
	if len(s) < 1 || len(s) > maxName {
		return false
	}
	for i := range len(s) {
		if !isNameByte(s[i]) {
			return false
		}
	}
	return true
}

func isNameByte(c byte) bool {
	return 'a' <= c && c <= 'z' || '0' <= c && c <= '9' || c == '.' || c == '-'
}
