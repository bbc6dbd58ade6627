package wal

import (
	"slices"
	"strconv"
	"strings"

	"theodolite/api"
	"theodolite/codec"
)

const (
	prefix     = "log."
	spare      = prefix + "new" // what is to take a torn segment's place
	recordKind = 1
	// leftNames is how many of the disk's names a log leaves to others, if it can: who wants to cut it may first have to write a file of their own.
	leftNames = 4
)

// segment is a file of records, one behind the other. Its name tells the number of the first: a name is never torn, takes no room, and tells where numbers go on though there is no record.
type segment struct {
	first int
	next  int // the number behind its last record's
}

func (s segment) name() string { return prefix + strconv.Itoa(s.first) }

// firsts are the numbers that the names of segments tell, rising.
func firsts(names []string) []int {
	var numbers []int
	for _, name := range names {
		text, is := strings.CutPrefix(name, prefix)
		n, err := strconv.Atoi(text)
		if is && err == nil {
			numbers = append(numbers, n)
		}
	}
	slices.Sort(numbers)
	return numbers
}

// none tells whether l is no log that Open gave.
func (l *Log) none() bool { return l == nil || l.d == nil }

// current is the segment to which records are appended.
func (l *Log) current() *segment { return &l.segments[len(l.segments)-1] }

// count counts a record of so many bytes in the last segment.
func (l *Log) count(size int) {
	l.current().next++
	l.size += size
}

// add makes a segment without records the last one.
func (l *Log) add(first int) {
	l.segments = append(l.segments, segment{first: first, next: first})
	l.size = 0
	l.torn = false
}

// read finds the segments on the disk, and their records.
func (l *Log) read() ([]api.Record, api.Errno) {
	var records []api.Record
	for _, first := range firsts(l.d.Names()) {
		l.add(first)
		b, e := l.d.Read(l.current().name())
		if e != api.OK {
			return nil, e
		}
		records = append(records, l.take(b)...)
	}
	return records, api.OK
}

// take counts the records with which b begins, up to where a crash has torn it, in the last segment.
func (l *Log) take(b []byte) []api.Record {
	var records []api.Record
	for {
		_, data, used, e := codec.Decode(b[l.size:])
		if e != api.OK {
			break
		}
		records = append(records, api.Record{Seq: l.current().next, Data: data})
		l.count(used)
	}
	l.torn = l.size < len(b)
	return records
}

// tidy removes what is left of a mend that was stopped, and begins a log where there is none.
func (l *Log) tidy() api.Errno {
	if slices.Contains(l.d.Names(), spare) {
		if e := l.d.Remove(spare); e != api.OK {
			return e
		}
	}
	if len(l.segments) == 0 {
		return l.begin(1)
	}
	return api.OK
}

// begin makes a segment without records on the disk.
func (l *Log) begin(first int) api.Errno {
	if e := l.d.Create(segment{first: first}.name()); e != api.OK {
		return e
	}
	l.add(first)
	return api.OK
}

// ready sees to it that a record may follow in the last segment: where it is torn, what follows would never be found again.
func (l *Log) ready() api.Errno {
	full := l.size > api.SegBytes && len(l.d.Names()) < api.MaxFiles-leftNames
	if l.torn && !full {
		if e := l.mend(); e != api.ErrDiskFull {
			return e
		}
	}
	if l.torn || full {
		return l.roll()
	}
	return api.OK
}

// roll lets the records that come stand in another file than those that there are. These are synced ahead of it, so that no crash leaves a gap between two segments.
func (l *Log) roll() api.Errno {
	if l.size == 0 {
		// A new segment would have this one's name.
		return l.mend()
	}
	if e := l.d.Sync(l.current().name()); e != api.OK {
		return e
	}
	return l.begin(l.Last() + 1)
}

// mend puts a file of the last segment's records, and nothing else, in its place. (A new segment behind each torn one would use up the disk's names, crash by crash.)
func (l *Log) mend() api.Errno {
	b, e := l.d.Read(l.current().name())
	if e != api.OK {
		return e
	}
	if e = l.d.Create(spare); e != api.OK {
		return e
	}
	e = l.fillSpare(b[:min(l.size, len(b))])
	if e == api.ErrDiskFull {
		l.d.Remove(spare)
	}
	if e == api.OK {
		e = l.d.Rename(spare, l.current().name())
	}
	if e != api.OK {
		return e
	}
	l.torn = false
	return api.OK
}

// fillSpare makes b the spare's safe bytes. (Where a crash has brought back more bytes than there is room for, there is none for an Append of no bytes either.)
func (l *Log) fillSpare(b []byte) api.Errno {
	if len(b) == 0 {
		return api.OK
	}
	if e := l.d.Append(spare, b); e != api.OK {
		return e
	}
	return l.d.Sync(spare)
}

// removeWhile removes segments, from the first one on, as long as they are gone. The last one stays: it tells where numbers go on.
func (l *Log) removeWhile(gone func(segment) bool) api.Errno {
	for len(l.segments) > 1 && gone(l.segments[0]) {
		if e := l.d.Remove(l.segments[0].name()); e != api.OK {
			return e
		}
		l.segments = l.segments[1:]
	}
	return api.OK
}
