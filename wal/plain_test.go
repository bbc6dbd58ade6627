package wal

import (
	"fmt"
	"slices"
	"strings"
	"testing"

	"theodolite/api"
	"theodolite/codec"
	"theodolite/disk"
)

// plain says the chapter anew, to hold a log against: it knows what was appended, synced and cut, and nothing of files.
type plain struct {
	data    []string // of the records 1 to Last, whatever became of those that were cut
	safe    int      // the greatest number that is safe
	cut     int      // the greatest number that was cut
	crashed bool     // since the log was opened
	// What bounds the files: the longest record, and, since the log was cut and synced, the bytes that were appended and the Opens; cutAll is that this is so, but for the Sync.
	longest, bytes, opens int
	cutAll                bool
}

func (p *plain) last() int { return len(p.data) }

func (p *plain) appended(data string) {
	p.data = append(p.data, data)
	p.longest = max(p.longest, len(data))
	p.bytes += len(data) + 32
	p.cutAll = false
}

func (p *plain) synced() {
	p.safe = p.last()
	if p.cutAll {
		p.bytes, p.opens, p.cutAll = 0, 0, false
	}
}

// wasCut is a Cut that was asked for, whether it was OK or not.
func (p *plain) wasCut(seq int, e api.Errno) {
	p.cut = max(p.cut, seq)
	p.cutAll = e == api.OK && seq == p.last()
}

// opened tells what is wrong with what Open has told, and goes on from there.
func (p *plain) opened(l *Log, records []api.Record) string {
	if wrong := p.wrongRecords(records, l.Last()); wrong != "" {
		return wrong
	}
	p.data = p.data[:l.Last()]
	p.safe = l.Last()
	p.cut = min(p.cut, l.Last())
	p.crashed = false
	return ""
}

func (p *plain) wrongRecords(records []api.Record, last int) string {
	if last < p.safe || last > p.last() || !p.crashed && last != p.last() {
		return fmt.Sprintf("P18.1: Last %d, of %d, of which %d are safe (crashed: %v)", last, p.last(), p.safe, p.crashed)
	}
	if len(records) == 0 {
		if last > p.cut {
			return fmt.Sprintf("P18.1: no records, Last %d, though only %d are cut", last, p.cut)
		}
		return ""
	}
	if first := records[0].Seq; first < 1 || first > p.cut+1 || records[len(records)-1].Seq != last {
		return fmt.Sprintf("P18.1: records from %d on, Last %d, %d are cut", first, last, p.cut)
	}
	for i, r := range records {
		if r.Seq != records[0].Seq+i || r.Data != p.data[r.Seq-1] {
			return fmt.Sprintf("P18.1: the record at %d is %d, %.40q, want %.40q", i, r.Seq, r.Data, p.data[r.Seq-1])
		}
	}
	return ""
}

// wrongNumbers tells what is wrong with the numbers that the log tells; what it says is safe must survive from now on.
func (p *plain) wrongNumbers(l *Log) string {
	if l.Last() != p.last() || l.Synced() < p.safe || l.Synced() > l.Last() {
		return fmt.Sprintf("P18.3: Last %d, Synced %d, want %d, %d at least", l.Last(), l.Synced(), p.last(), p.safe)
	}
	if l.First() < 1 || l.First() > p.cut+1 {
		return fmt.Sprintf("P18.4: First %d, %d are cut", l.First(), p.cut)
	}
	p.safe = l.Synced()
	return ""
}

// wrongFiles tells what is wrong with the log's files.
func (p *plain) wrongFiles(d *disk.Disk) string {
	names := logNames(d)
	if len(names) > 2+p.bytes/api.SegBytes+p.opens {
		return fmt.Sprintf("P18.4: %d files, of %d bytes and %d Opens", len(names), p.bytes, p.opens)
	}
	for _, name := range names {
		if b, _ := d.Read(name); p.bytes+p.opens == 0 && len(b) > 16484+p.longest {
			return fmt.Sprintf("P18.4: %s has %d bytes, the longest record %d", name, len(b), p.longest)
		}
	}
	return ""
}

// wrongFirst tells whether First is another number than the least that Open would tell.
func wrongFirst(d *disk.Disk, l *Log) string {
	other, records, e := Open(d.Clone())
	if e != api.OK {
		return ""
	}
	first := other.Last() + 1
	if len(records) > 0 {
		first = records[0].Seq
	}
	if l.First() != first {
		return fmt.Sprintf("P18.4: First %d, Open tells %d", l.First(), first)
	}
	return ""
}

func logNames(d *disk.Disk) []string {
	return slices.DeleteFunc(d.Names(), func(name string) bool { return !strings.HasPrefix(name, "log.") })
}

// right fails the test with the first of what is wrong.
func right(t *testing.T, story any, wrong ...string) {
	t.Helper()
	for _, x := range wrong {
		if x != "" {
			t.Fatalf("%v: %s", story, x)
		}
	}
}

// drawn is a stream of numbers that the seed tells.
func drawn(seed uint64) func(int) int {
	return func(n int) int {
		seed = seed*6364136223846793005 + 1442695040888963407
		return int((seed >> 33) % uint64(n))
	}
}

// told is a log, the chapter's words about it, and what was done so far.
type told struct {
	t     *testing.T
	d     *disk.Disk
	l     *Log
	p     plain
	story []string
	texts int
}

func (h *told) note(text string, a ...any) { h.story = append(h.story, fmt.Sprintf(text, a...)) }

// open opens the log, if the disk lets it.
func (h *told) open() api.Errno {
	h.t.Helper()
	l, records, e := Open(h.d)
	h.note("open: %d", e)
	h.p.opens++
	h.p.cutAll = false
	if e != api.OK {
		if l != nil || len(records) != 0 {
			h.t.Fatalf("%v: P18.1: with an error %v, %v", h.story, l, records)
		}
		return e
	}
	h.l = l
	right(h.t, h.story, h.p.opened(l, records))
	if l.Synced() != l.Last() {
		h.t.Fatalf("%v: P18.3: Synced %d behind Open, Last %d", h.story, l.Synced(), l.Last())
	}
	return e
}

func (h *told) crash(choices ...int) {
	h.note("crash%v", choices)
	h.d.Crash(choices...)
	h.p.crashed = true
}

func (h *told) append(data string) api.Errno {
	h.t.Helper()
	n, e := h.l.Append(data)
	h.note("append of %d: %d, %d", len(data), n, e)
	want := 0
	if e == api.OK {
		h.p.appended(data)
		want = h.p.last()
	}
	if n != want {
		h.t.Fatalf("%v: P18.2: Append: %d, want %d", h.story, n, want)
	}
	return e
}

func (h *told) sync() api.Errno {
	h.t.Helper()
	e := h.l.Sync()
	h.note("sync: %d", e)
	if e == api.OK {
		h.p.synced()
		if h.l.Synced() != h.l.Last() {
			h.t.Fatalf("%v: P18.3: Synced %d behind Sync, Last %d", h.story, h.l.Synced(), h.l.Last())
		}
	}
	return e
}

func (h *told) cut(seq int) api.Errno {
	e := h.l.Cut(seq)
	h.note("cut %d: %d", seq, e)
	h.p.wasCut(seq, e)
	return e
}

// check holds what the log tells now, and the disk, against the chapter.
func (h *told) check() {
	h.t.Helper()
	right(h.t, h.story, h.p.wrongNumbers(h.l))
	if !h.d.Down() {
		right(h.t, h.story, h.p.wrongFiles(h.d), wrongFirst(h.d, h.l))
	}
}

// text is a record's data of that length, another one each time, if there is room for it; it is full of what looks like records.
func (h *told) text(length int) string {
	h.texts++
	b, _ := codec.Encode(1, fmt.Sprint("text", h.texts))
	return strings.Repeat(string(b), length/len(b)+1)[:length]
}

// copied is another one on a disk like this one, which goes on by itself. (Its log is to be opened.)
func (h *told) copied() *told {
	c := *h
	c.d = h.d.Clone()
	c.p.data = slices.Clone(h.p.data)
	c.story = slices.Clone(h.story)
	return &c
}
