package store

import (
	"strconv"
	"strings"

	"theodolite/api"
	"theodolite/codec"
	"theodolite/disk"
	"theodolite/wal"
)

const (
	rowsName = "rows"     // the rows of the last Snapshot
	newName  = "rows.new" // those of one that is under way
	rowsKind = 2          // a record of another kind than the log's
	behind   = "\n"       // stands behind the number of the last change that the rows know of
)

// isNone tells whether d is no disk that calls gave. No file has no name, but such a disk does not come to look for one.
func isNone(d *disk.Disk) bool {
	_, e := d.Read("")
	return e == api.ErrNil
}

// load makes the rows those that the disk's files tell.
func (s *Store) load() {
	saved := s.readRows()
	log, records, e := wal.Open(s.d)
	demand(e)
	s.log = log
	last := s.replay(records, saved)
	trust(last == log.Last())
	s.tidy(saved)
}

// readRows makes the rows those of the last Snapshot, and tells the last change that these know of.
func (s *Store) readRows() int {
	b, e := s.d.Read(rowsName)
	if e == api.ErrDiskNone {
		return 0
	}
	demand(e)
	kind, body, used, e := codec.Decode(b)
	trust(e == api.OK && kind == rowsKind && used == len(b))
	number, text, _ := strings.Cut(body, behind)
	saved, err := strconv.Atoi(number)
	rows, e := codec.GetRows(text)
	trust(e == api.OK && err == nil)
	for _, row := range rows {
		s.redo(api.Change{Kind: api.ChangePut, Id: row.Id, V: row.V})
	}
	return saved
}

// replay does the changes of which the rows do not know yet, and tells the last of all. (What a log has cut, a crash may bring back.)
func (s *Store) replay(records []api.Record, last int) int {
	for _, r := range records {
		if r.Seq <= last {
			continue
		}
		c, e := codec.GetChange(r.Data)
		trust(e == api.OK && r.Seq == last+1)
		s.redo(c)
		last = r.Seq
	}
	return last
}

// redo does a change that the disk tells.
func (s *Store) redo(c api.Change) {
	trust(s.check(c) == api.OK)
	s.apply(c)
}

// trust gives up, if what the disk tells is nothing that a store of this dimension has written.
func trust(holds bool) {
	if !holds {
		panic(api.ErrStoreSpoilt)
	}
}

// tidy ends what a Snapshot has begun, or undoes it, if the disk was stopped within: room for the next one may hang on that.
func (s *Store) tidy(saved int) {
	if e := s.d.Remove(newName); e != api.ErrDiskNone {
		demand(e)
	}
	if s.log.First() <= saved {
		demand(s.log.Cut(saved))
	}
}

// save makes the rows that there are the file that Open reads.
func (s *Store) save() {
	// A file that came to nothing takes up room; otherwise there is none of that name any more.
	defer s.d.Remove(newName)
	s.writeRows()
	// The log must know of all changes of which the file does, or their numbers would be given again.
	demand(s.log.Sync())
	demand(s.d.Rename(newName, rowsName))
	// Which of the two files survives must be settled ahead of what the earlier one needs being gone.
	demand(s.d.SyncDir())
	demand(s.log.Cut(s.Seq()))
}

// writeRows makes a new file of the rows, whose bytes are safe.
func (s *Store) writeRows() {
	text := strconv.Itoa(s.Seq()) + behind + got(codec.PutRows(s.Rows()))
	demand(s.d.Create(newName))
	demand(s.d.Append(newName, got(codec.Encode(rowsKind, text))))
	demand(s.d.Sync(newName))
}
