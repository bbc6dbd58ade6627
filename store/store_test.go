package store

import (
	"fmt"
	"math"
	"reflect"
	"slices"
	"strconv"
	"testing"

	"theodolite/api"
	"theodolite/codec"
	"theodolite/disk"
	"theodolite/wal"
)

func row(id int, v ...int) api.Row { return api.Row{Id: id, V: v} }

func opened(t *testing.T, d *disk.Disk, dim int) *Store {
	t.Helper()
	s, e := Open(d, dim)
	if s == nil || e != api.OK {
		t.Fatalf("P19.1: Open: %v, %d", s, e)
	}
	return s
}

func openFails(t *testing.T, d *disk.Disk, dim int, want api.Errno) {
	t.Helper()
	if s, e := Open(d, dim); s != nil || e != want {
		t.Errorf("P19.1: Open with %d: %v, %d: want %d", dim, s, e, want)
	}
}

func putIs(t *testing.T, s *Store, r api.Row, want int, wrong api.Errno) {
	t.Helper()
	if n, e := s.Put(r); n != want || e != wrong {
		t.Fatalf("P19.2: Put(%s): %d, %d: want %d, %d", brief(r), n, e, want, wrong)
	}
}

func deleteIs(t *testing.T, s *Store, id int, want int, wrong api.Errno) {
	t.Helper()
	if n, e := s.Delete(id); n != want || e != wrong {
		t.Fatalf("P19.2: Delete(%d): %d, %d: want %d, %d", id, n, e, want, wrong)
	}
}

// rowsAre asks for the rows, by Rows, Len and Get.
func rowsAre(t *testing.T, s *Store, want ...api.Row) {
	t.Helper()
	if rows := s.Rows(); len(rows)+len(want) > 0 && !reflect.DeepEqual(rows, want) || s.Len() != len(want) {
		t.Fatalf("P19.3: Len %d, Rows %s: want %s", s.Len(), brief(rows), brief(want))
	}
	for _, r := range want {
		if v, e := s.Get(r.Id); e != api.OK || !slices.Equal(v, r.V) {
			t.Fatalf("P19.3: Get(%d): %v, %d: want %v", r.Id, v, e, r.V)
		}
	}
}

func getFails(t *testing.T, s *Store, ids ...int) {
	t.Helper()
	for _, id := range ids {
		if v, e := s.Get(id); v != nil || e != api.ErrStoreNone {
			t.Errorf("P19.3: Get(%d): %v, %d", id, v, e)
		}
	}
}

func numbersAre(t *testing.T, s *Store, seq, safe int) {
	t.Helper()
	if s.Seq() != seq || s.Safe() != safe {
		t.Fatalf("P19.4: Seq %d, Safe %d: want %d, %d", s.Seq(), s.Safe(), seq, safe)
	}
}

func sinceIs(t *testing.T, s *Store, seq int, want ...api.Change) {
	t.Helper()
	changes, e := s.Since(seq)
	if e != api.OK || len(changes)+len(want) > 0 && !reflect.DeepEqual(changes, want) {
		t.Fatalf("P19.6: Since(%d): %v, %d: want %v", seq, changes, e, want)
	}
}

func sinceFails(t *testing.T, s *Store, seqs ...int) {
	t.Helper()
	for _, seq := range seqs {
		if changes, e := s.Since(seq); len(changes) != 0 || e != api.ErrStoreSeq {
			t.Errorf("P19.6: Since(%d): %v, %d", seq, changes, e)
		}
	}
}

func is(t *testing.T, promise string, got, want api.Errno) {
	t.Helper()
	if got != want {
		t.Fatalf("%s: %d: want %d", promise, got, want)
	}
}

func ok(t *testing.T, got ...api.Errno) {
	t.Helper()
	for i, e := range got {
		if e != api.OK {
			t.Fatalf("the answer at %d is %d", i, e)
		}
	}
}

func put(id int, v ...int) api.Change { return api.Change{Kind: api.ChangePut, Id: id, V: v} }

func gone(id int) api.Change { return api.Change{Kind: api.ChangeDelete, Id: id} }

// crashed is a clone that crashed; the disk itself is as it was.
func crashed(d *disk.Disk, choices ...int) *disk.Disk {
	x := d.Clone()
	x.Crash(choices...)
	return x
}

// great is a row whose numbers are as great as may be.
func great(id, dim int) api.Row {
	v := slices.Repeat([]int{-api.MaxCoord}, dim)
	v[0] = api.MaxCoord
	return row(id, v...)
}

// The chapter's table, line by line.
func TestExamples(t *testing.T) {
	d := newDisk(t, api.MaxRoom)
	s := opened(t, d, 2)
	putIs(t, s, row(1, 3, 4), 1, api.OK)
	putIs(t, s, row(0, 3, 4), 0, api.ErrFlatId)
	putIs(t, s, row(1, 3), 0, api.ErrVecDim)
	numbersAre(t, s, 1, 0)
	ok(t, s.Sync())
	numbersAre(t, s, 1, 1)
	deleteIs(t, s, 2, 0, api.ErrStoreNone)
	putIs(t, s, row(2, 5, 5), 2, api.OK)
	deleteIs(t, s, 1, 3, api.OK)
	getFails(t, s, 1)
	rowsAre(t, s, row(2, 5, 5))
	sinceIs(t, s, 1, put(2, 5, 5), gone(1))
	sinceFails(t, s, 4)
	want := [][]api.Row{1: {row(1, 3, 4)}, 2: {row(1, 3, 4), row(2, 5, 5)}, 3: {row(2, 5, 5)}}
	got := map[int]int{}
	for choice := range 50 {
		x := opened(t, crashed(d, 0, choice), 2)
		if x.Seq() < 1 || x.Seq() > 3 {
			t.Fatalf("P19.7: Seq %d", x.Seq())
		}
		rowsAre(t, x, want[x.Seq()]...)
		got[x.Seq()]++
	}
	if len(got) != 3 {
		t.Errorf("P19.7: behind 50 crashes so many times each Seq: %v", got)
	}
}

func TestOpenErrors(t *testing.T) {
	for _, dim := range []int{math.MinInt, -1, 0, 1, 2, 64, 65, math.MaxInt} {
		openFails(t, nil, dim, api.ErrNil)
		openFails(t, &disk.Disk{}, dim, api.ErrNil)
	}
	d := newDisk(t, 1000)
	stopped := newDisk(t, 1000)
	ok(t, stopped.Stop(0))
	for _, dim := range []int{math.MinInt, -1, 0, 65, 128, 257, math.MaxInt} {
		openFails(t, d, dim, api.ErrVecDim)
		openFails(t, stopped, dim, api.ErrVecDim)
	}
	if d.Steps() != 0 {
		t.Errorf("P19.1: %d steps", d.Steps())
	}
	openFails(t, stopped, 2, api.ErrDiskDown)
	ok(t, stopped.Crash())
	putIs(t, opened(t, stopped, 2), row(1, 3, 4), 1, api.OK)
	ok(t, stopped.Stop(0))
	openFails(t, stopped, 2, api.ErrDiskDown)
}

// A new disk has no rows, of whatever dimension and however little room.
func TestOpenNew(t *testing.T) {
	for _, room := range []int{1, 100, 4194304} {
		for dim := 1; dim <= 64; dim++ {
			d := newDisk(t, room)
			s := opened(t, d, dim)
			rowsAre(t, s)
			numbersAre(t, s, 0, 0)
			sinceIs(t, s, 0)
			sinceFails(t, s, math.MinInt, -1, 1, math.MaxInt)
			rowsAre(t, opened(t, crashed(d, 0), dim))
			rowsAre(t, opened(t, crashed(d, 9, 9), dim))
		}
	}
}

// Wherever the disk stops while the store is opened, behind whatever, what is opened later is the same.
func TestOpenStops(t *testing.T) {
	d := newDisk(t, api.MaxRoom)
	s := opened(t, d, 2)
	putIs(t, s, row(1, 3, 4), 1, api.OK)
	ok(t, s.Snapshot())
	putIs(t, s, row(2, 5, 5), 2, api.OK)
	ok(t, s.Sync())
	for names := range 8 {
		for steps := range 10 {
			x := d.Clone()
			s = opened(t, x, 2)
			ok(t, x.Stop(steps))
			is(t, "P19.5", s.Snapshot(), api.ErrDiskDown)
			ok(t, x.Crash(names, 9, 9, 9))
			openStops(t, x, names)
		}
	}
}

func openStops(t *testing.T, d *disk.Disk, names int) {
	t.Helper()
	for steps := 0; ; steps++ {
		x := d.Clone()
		ok(t, x.Stop(steps))
		if s, e := Open(x, 2); e == api.OK {
			numbersAre(t, s, 2, 2)
			rowsAre(t, s, row(1, 3, 4), row(2, 5, 5))
			return
		} else if e != api.ErrDiskDown || s != nil {
			t.Fatalf("P19.1: %v, %d", s, e)
		}
		ok(t, x.Crash(names, 1, 1))
		rowsAre(t, opened(t, x, 2), row(1, 3, 4), row(2, 5, 5))
	}
}

func TestPut(t *testing.T) {
	d := newDisk(t, api.MaxRoom)
	s := opened(t, d, 3)
	putIs(t, s, row(api.MaxId, api.MaxCoord, -api.MaxCoord, 0), 1, api.OK)
	putIs(t, s, row(1, 0, 0, 0), 2, api.OK)
	putIs(t, s, row(7, -1, 2, -3), 3, api.OK)
	rowsAre(t, s, row(1, 0, 0, 0), row(7, -1, 2, -3), row(api.MaxId, api.MaxCoord, -api.MaxCoord, 0))
	putIs(t, s, row(7, 4, 5, 6), 4, api.OK)
	putIs(t, s, row(7, 4, 5, 6), 5, api.OK)
	rowsAre(t, s, row(1, 0, 0, 0), row(7, 4, 5, 6), row(api.MaxId, api.MaxCoord, -api.MaxCoord, 0))
	deleteIs(t, s, 1, 6, api.OK)
	deleteIs(t, s, 1, 0, api.ErrStoreNone)
	putIs(t, s, row(1, 9, 9, 9), 7, api.OK)
	deleteIs(t, s, api.MaxId, 8, api.OK)
	rowsAre(t, s, row(1, 9, 9, 9), row(7, 4, 5, 6))
	sinceIs(t, s, 5, gone(1), put(1, 9, 9, 9), gone(api.MaxId))
	s = opened(t, d, 3)
	numbersAre(t, s, 8, 8)
	rowsAre(t, s, row(1, 9, 9, 9), row(7, 4, 5, 6))
	putIs(t, s, row(8, 1, 1, 1), 9, api.OK)
}

// What may not be changes nothing, and the first of several faults is told, ahead of the disk's.
func TestPutErrors(t *testing.T) {
	d := newDisk(t, api.MaxRoom)
	s := opened(t, d, 2)
	putIs(t, s, row(1, 3, 4), 1, api.OK)
	steps := d.Steps()
	for _, stop := range []bool{false, true} {
		if stop {
			ok(t, d.Stop(0))
		}
		for _, id := range []int{math.MinInt, -1, 0, api.MaxId + 1, 1<<32 + 1, math.MaxInt} {
			putIs(t, s, row(id, 1, 1), 0, api.ErrFlatId)
			putIs(t, s, row(id), 0, api.ErrFlatId)
			putIs(t, s, row(id, 1, math.MaxInt), 0, api.ErrFlatId)
			deleteIs(t, s, id, 0, api.ErrStoreNone)
		}
		for _, id := range []int{1, 2, api.MaxId} {
			putIs(t, s, row(id), 0, api.ErrVecDim)
			putIs(t, s, row(id, 1), 0, api.ErrVecDim)
			putIs(t, s, row(id, 1, 1, 1), 0, api.ErrVecDim)
			putIs(t, s, row(id, math.MaxInt), 0, api.ErrVecDim)
			for _, x := range []int{math.MinInt, -api.MaxCoord - 1, api.MaxCoord + 1, 1 << 32, math.MaxInt} {
				putIs(t, s, row(id, 1, x), 0, api.ErrVecCoord)
				putIs(t, s, row(id, x, 1), 0, api.ErrVecCoord)
			}
		}
		deleteIs(t, s, 2, 0, api.ErrStoreNone)
		rowsAre(t, s, row(1, 3, 4))
		getFails(t, s, math.MinInt, -1, 0, 2, api.MaxId, math.MaxInt)
		numbersAre(t, s, 1, 0)
		sinceIs(t, s, 0, put(1, 3, 4))
	}
	if d.Steps() != steps {
		t.Errorf("P19.2: %d steps", d.Steps()-steps)
	}
	putIs(t, s, row(1, 5, 5), 0, api.ErrDiskDown)
	putIs(t, s, row(2, 5, 5), 0, api.ErrDiskDown)
	deleteIs(t, s, 1, 0, api.ErrDiskDown)
	is(t, "P19.4", s.Sync(), api.ErrDiskDown)
	is(t, "P19.5", s.Snapshot(), api.ErrDiskDown)
	rowsAre(t, s, row(1, 3, 4))
	numbersAre(t, s, 1, 0)
	sinceIs(t, s, 0, put(1, 3, 4))
}

// As many rows as may be, of the greatest numbers that may be, in a file as well as in the log.
func TestMany(t *testing.T) {
	d := newDisk(t, api.MaxRoom)
	s := opened(t, d, 64)
	var all []api.Row
	for i := range 512 {
		all = append(all, great(api.MaxId-511+i, 64))
		putIs(t, s, all[i], i+1, api.OK)
	}
	s = opened(t, d, 64)
	for range 2 {
		seq := s.Seq()
		putIs(t, s, great(1, 64), 0, api.ErrStoreMany)
		putIs(t, s, great(0, 64), 0, api.ErrFlatId)
		putIs(t, s, great(1, 63), 0, api.ErrVecDim)
		putIs(t, s, row(1, slices.Repeat([]int{math.MinInt}, 64)...), 0, api.ErrVecCoord)
		putIs(t, s, all[9], seq+1, api.OK)
		deleteIs(t, s, all[3].Id, seq+2, api.OK)
		putIs(t, s, great(1, 64), seq+3, api.OK)
		putIs(t, s, all[3], 0, api.ErrStoreMany)
		deleteIs(t, s, 1, seq+4, api.OK)
		putIs(t, s, all[3], seq+5, api.OK)
		rowsAre(t, s, all...)
		ok(t, s.Snapshot())
		numbersAre(t, s, seq+5, seq+5)
		if most := 3*8*64*512 + 200000; sizes(d) > most {
			t.Errorf("P19.5: %d bytes, want at most %d", sizes(d), most)
		}
		ok(t, d.Crash(0))
		s = opened(t, d, 64)
		numbersAre(t, s, seq+5, seq+5)
		rowsAre(t, s, all...)
	}
	ok(t, d.Stop(0))
	putIs(t, s, great(1, 64), 0, api.ErrStoreMany)
}

// The log goes on for as long as the disk has room; a Snapshot takes away all but the rows, wherever the log began.
func TestSnapshot(t *testing.T) {
	d := newDisk(t, api.MaxRoom)
	s := opened(t, d, 64)
	for n := 1; n <= 12000; n++ {
		putIs(t, s, row(1+n%3, slices.Repeat([]int{n}, 64)...), n, api.OK)
		if n%4000 != 0 {
			continue
		}
		if sizes(d) < 200000 {
			t.Fatalf("the log has %d bytes", sizes(d))
		}
		rows := s.Rows()
		ok(t, s.Snapshot())
		if most := 3*8*64*3 + 200000; sizes(d) > most {
			t.Errorf("P19.5: %d bytes, want at most %d", sizes(d), most)
		}
		rowsAre(t, s, rows...)
		numbersAre(t, s, n, n)
		for _, choices := range [][]int{nil, {1, 9}, {2, -9, 9}, {100, 9, 9, 9}} {
			x := opened(t, crashed(d, choices...), 64)
			numbersAre(t, x, n, n)
			rowsAre(t, x, rows...)
		}
	}
	sinceIs(t, s, 11999, put(1, slices.Repeat([]int{12000}, 64)...))
	s = opened(t, d, 64)
	sinceFails(t, s, 11999, 12001)
	sinceIs(t, s, 12000)
}

// A Snapshot of nothing, behind changes and ahead of them, one behind the other.
func TestSnapshotOfNothing(t *testing.T) {
	d := newDisk(t, 1000)
	s := opened(t, d, 1)
	ok(t, s.Snapshot(), s.Snapshot())
	numbersAre(t, s, 0, 0)
	ok(t, d.Crash(1, 9, 9))
	s = opened(t, d, 1)
	putIs(t, s, row(5, 5), 1, api.OK)
	deleteIs(t, s, 5, 2, api.OK)
	ok(t, s.Snapshot(), d.Crash(0))
	s = opened(t, d, 1)
	numbersAre(t, s, 2, 2)
	rowsAre(t, s)
	ok(t, s.Snapshot())
	putIs(t, s, row(5, 6), 3, api.OK)
	rowsAre(t, s, row(5, 6))
}

// A full disk refuses changes and Snapshots, of which nothing is left then.
func TestFullDisk(t *testing.T) {
	d := newDisk(t, 3000)
	s := opened(t, d, 2)
	n := 0
	for ; ; n++ {
		if _, e := s.Put(row(1+n%50, n, n)); e == api.ErrDiskFull {
			break
		} else if e != api.OK {
			t.Fatalf("P19.2: %d", e)
		}
	}
	rows := s.Rows()
	names, used := d.Names(), d.Used()
	for range 3 {
		putIs(t, s, row(1, 0, 0), 0, api.ErrDiskFull)
		is(t, "P19.5", s.Snapshot(), api.ErrDiskFull)
		if !slices.Equal(d.Names(), names) || d.Used() != used {
			t.Errorf("P19.5: files %v of %d bytes, ahead of that %v of %d", d.Names(), d.Used(), names, used)
		}
		rowsAre(t, s, rows...)
		if s.Seq() != n || s.Safe() > n {
			t.Errorf("P19.4: Seq %d, Safe %d: want %d", s.Seq(), s.Safe(), n)
		}
	}
	ok(t, s.Sync(), d.Crash(0))
	s = opened(t, d, 2)
	numbersAre(t, s, n, n)
	rowsAre(t, s, rows...)
	putIs(t, s, row(1, 0, 0), 0, api.ErrDiskFull)
}

// A crash may bring back more bytes than there is room for: what the rows do not need is removed again, and there is room for changes.
func TestOverfullDisk(t *testing.T) {
	d := newDisk(t, 20000)
	s := opened(t, d, 64)
	for n := range 110 {
		if n == 55 {
			ok(t, s.Snapshot())
		}
		putIs(t, s, great(1, 64), n+1, api.OK)
	}
	bytes := 55 * 271
	ok(t, d.Crash(1, 0, bytes))
	if d.Used() < 2*bytes {
		t.Fatalf("%v, %d bytes", d.Names(), d.Used())
	}
	s = opened(t, d, 64)
	rowsAre(t, s, great(1, 64))
	putIs(t, s, great(2, 64), 111, api.OK)
	ok(t, s.Snapshot())
}

// As long as there is room for the rows once more, a Snapshot makes room for changes, again and again, though crashes bring back what it took away.
func TestLittleRoom(t *testing.T) {
	d := newDisk(t, 30000)
	s := opened(t, d, 64)
	n := 0
	for i := range 40 {
		for range 60 {
			n++
			putIs(t, s, row(1+n%4, slices.Repeat([]int{n}, 64)...), n, api.OK)
		}
		rows := s.Rows()
		ok(t, s.Snapshot())
		for range 45 {
			n++
			putIs(t, s, row(1+n%4, slices.Repeat([]int{n}, 64)...), n, api.OK)
		}
		ok(t, d.Crash(i%4, 40000, 40000, 40000))
		s = opened(t, d, 64)
		if s.Seq() == n-45 {
			rowsAre(t, s, rows...)
		}
		if s.Seq() < n-45 || s.Seq() > n {
			t.Fatalf("P19.7: Seq %d, want %d to %d", s.Seq(), n-45, n)
		}
		n = s.Seq()
		ok(t, s.Snapshot())
	}
}

// A store that is never saved goes on through any number of crashes, and can be saved then.
func TestTornOften(t *testing.T) {
	t.Parallel()
	d := newDisk(t, api.MaxRoom)
	s := opened(t, d, 64)
	for i := range 100 {
		for j := range 70 {
			putIs(t, s, row(1+j, slices.Repeat([]int{i}, 64)...), i*70+j+1, api.OK)
		}
		ok(t, s.Sync())
		putIs(t, s, row(1, slices.Repeat([]int{-1}, 64)...), i*70+71, api.OK)
		ok(t, d.Crash(slices.Repeat([]int{5}, 100)...))
		s = opened(t, d, 64)
		numbersAre(t, s, i*70+70, i*70+70)
	}
	ok(t, s.Snapshot(), d.Crash(0))
	rowsAre(t, opened(t, d, 64), s.Rows()...)
}

// Safe tells what survives, and does not fall.
func TestSafe(t *testing.T) {
	d := newDisk(t, api.MaxRoom)
	s := opened(t, d, 1)
	ok(t, s.Sync())
	numbersAre(t, s, 0, 0)
	putIs(t, s, row(1, 1), 1, api.OK)
	putIs(t, s, row(2, 2), 2, api.OK)
	ok(t, s.Sync(), s.Sync())
	numbersAre(t, s, 2, 2)
	putIs(t, s, row(3, 3), 3, api.OK)
	numbersAre(t, s, 3, 2)
	numbersAre(t, opened(t, crashed(d, 0), 1), 2, 2)
	numbersAre(t, opened(t, crashed(d, 0, -1000), 1), 2, 2)
	ok(t, s.Snapshot())
	numbersAre(t, s, 3, 3)
	putIs(t, s, row(4, 4), 4, api.OK)
	ok(t, d.Stop(0))
	is(t, "P19.4", s.Sync(), api.ErrDiskDown)
	numbersAre(t, s, 4, 3)
}

// What Sync and Snapshot do is not to be seen in the rows; and the changes since the opening lead from the rows then to the rows now.
func TestWhatFollows(t *testing.T) {
	t.Parallel()
	for seed := range 60 {
		stores := make([]*Store, 3)
		disks := make([]*disk.Disk, 3)
		starts := make([][]api.Row, 3)
		for i := range stores {
			disks[i] = newDisk(t, api.MaxRoom)
			stores[i] = opened(t, disks[i], 2)
		}
		draw := drawn(uint64(seed))
		for range 150 {
			id, x, what, other := draw(9), draw(100), draw(3), draw(20)
			var seqs [3]int
			var wrong [3]api.Errno
			for i, s := range stores {
				if what < 2 {
					seqs[i], wrong[i] = s.Put(row(id, x, -x))
				} else {
					seqs[i], wrong[i] = s.Delete(id)
				}
			}
			if seqs[0] != seqs[1] || seqs[0] != seqs[2] || wrong[0] != wrong[1] || wrong[0] != wrong[2] {
				t.Fatalf("P19.8: %v, %v", seqs, wrong)
			}
			switch other {
			case 0:
				ok(t, stores[1].Sync())
			case 1, 2:
				ok(t, stores[2].Snapshot())
			case 3:
				ok(t, stores[2].Snapshot(), disks[2].Crash(x, x, x))
				stores[2] = opened(t, disks[2], 2)
				starts[2] = stores[2].Rows()
			}
			rowsAre(t, stores[1], stores[0].Rows()...)
			rowsAre(t, stores[2], stores[0].Rows()...)
		}
		for i, s := range stores {
			rowsAre(t, s, changed(t, s, starts[i])...)
		}
	}
}

// changed does all changes since the opening to the rows that there were then.
func changed(t *testing.T, s *Store, rows []api.Row) []api.Row {
	t.Helper()
	first := 0
	for _, e := s.Since(first); e != api.OK; _, e = s.Since(first) {
		first++
	}
	changes, _ := s.Since(first)
	for _, c := range changes {
		rows = slices.DeleteFunc(slices.Clone(rows), func(r api.Row) bool { return r.Id == c.Id })
		if c.Kind == api.ChangePut {
			rows = append(rows, api.Row{Id: c.Id, V: c.V})
		}
	}
	slices.SortFunc(rows, func(a, b api.Row) int { return a.Id - b.Id })
	return rows
}

// laid is a disk with a file of these bytes.
func laid(t *testing.T, d *disk.Disk, name string, b []byte) *disk.Disk {
	t.Helper()
	x := d.Clone()
	x.Remove(name)
	ok(t, x.Create(name), x.Append(name, b), x.Sync(name), x.SyncDir())
	return x
}

func record(kind int, body string) []byte {
	b, _ := codec.Encode(kind, body)
	return b
}

// logOf is a disk with a log of these records, of which so many are cut.
func logOf(t *testing.T, cut int, data ...string) *disk.Disk {
	t.Helper()
	d := newDisk(t, api.MaxRoom)
	l, _, e := wal.Open(d)
	ok(t, e)
	for _, x := range data {
		if _, e := l.Append(x); e != api.OK {
			t.Fatal(e)
		}
	}
	ok(t, l.Cut(cut), l.Sync())
	return d
}

func text(t *testing.T, c api.Change) string {
	t.Helper()
	s, e := codec.PutChange(c)
	ok(t, e)
	return s
}

// What no store has written is refused, whatever is wrong with it.
func TestSpoiltRows(t *testing.T) {
	d := newDisk(t, api.MaxRoom)
	s := opened(t, d, 2)
	putIs(t, s, row(1, 3, 4), 1, api.OK)
	ok(t, s.Snapshot())
	putIs(t, s, row(2, 5, 5), 2, api.OK)
	good, e := d.Read(rowsName)
	ok(t, e)
	_, body, _, e := codec.Decode(good)
	ok(t, e)
	rowsAre(t, opened(t, laid(t, d, rowsName, good), 2), row(1, 3, 4), row(2, 5, 5))
	for i := range good {
		bad := slices.Clone(good)
		bad[i]++
		openFails(t, laid(t, d, rowsName, bad), 2, api.ErrStoreSpoilt)
		openFails(t, laid(t, d, rowsName, good[:i]), 2, api.ErrStoreSpoilt)
	}
	rows := body[2:]
	other, _ := codec.PutRows([]api.Row{row(1, 3, 4, 5)})
	for _, bad := range [][]byte{
		append(slices.Clone(good), 0),
		append(slices.Clone(good), good...),
		record(1, body), record(3, body), record(rowsKind, ""), record(rowsKind, behind),
		record(rowsKind, rows), record(rowsKind, "x"+behind+rows), record(rowsKind, behind+rows),
		record(rowsKind, "1"+rows), record(rowsKind, "1"+behind), record(rowsKind, "1"+behind+rows[:5]),
		record(rowsKind, body+"x"), record(rowsKind, "1"+behind+other),
		record(rowsKind, "3"+behind+rows), record(rowsKind, "0"+behind+rows), record(rowsKind, "-1"+behind+rows),
		record(rowsKind, "9223372036854775807"+behind+rows), record(rowsKind, "9223372036854775808"+behind+rows),
	} {
		x := laid(t, d, rowsName, bad)
		openFails(t, x, 2, api.ErrStoreSpoilt)
		openFails(t, x, 2, api.ErrStoreSpoilt)
	}
	x := d.Clone()
	ok(t, x.Remove(rowsName))
	openFails(t, x, 2, api.ErrStoreSpoilt)

	x = newDisk(t, api.MaxRoom)
	rowsAre(t, opened(t, laid(t, x, rowsName, record(rowsKind, "0"+behind+rows)), 2), row(1, 3, 4))
	openFails(t, laid(t, x, rowsName, record(rowsKind, "x"+behind+rows)), 2, api.ErrStoreSpoilt)
	openFails(t, laid(t, x, rowsName, record(rowsKind, behind+rows)), 2, api.ErrStoreSpoilt)
}

func TestSpoiltLog(t *testing.T) {
	one, two := text(t, put(1, 3, 4)), text(t, put(2, 5, 5))
	rowsAre(t, opened(t, logOf(t, 0, one, two), 2), row(1, 3, 4), row(2, 5, 5))
	for _, bad := range []string{"", "x", one + "x", one[1:], text(t, gone(7)), text(t, put(2, 5)), text(t, put(2, 5, 5, 5)), "\x03" + one[1:]} {
		openFails(t, logOf(t, 0, bad), 2, api.ErrStoreSpoilt)
		openFails(t, logOf(t, 0, one, bad), 2, api.ErrStoreSpoilt)
		openFails(t, logOf(t, 0, one, bad, two), 2, api.ErrStoreSpoilt)
	}
	openFails(t, logOf(t, 2, one, two), 2, api.ErrStoreSpoilt)
	var many []string
	for i := range 513 {
		many = append(many, text(t, put(i+1, 3, 4)))
	}
	openFails(t, logOf(t, 0, many...), 2, api.ErrStoreSpoilt)
	if s := opened(t, logOf(t, 0, many[:512]...), 2); s.Len() != 512 {
		t.Errorf("P19.1: %d rows", s.Len())
	}
	openFails(t, laid(t, logOf(t, 0, one), "log.5", record(1, two)), 2, api.ErrStoreSpoilt)
}

// A disk of another dimension's store is refused, and is as good as ahead of that.
func TestOtherDimension(t *testing.T) {
	d := newDisk(t, api.MaxRoom)
	s := opened(t, d, 2)
	putIs(t, s, row(1, 3, 4), 1, api.OK)
	for range 2 {
		for _, dim := range []int{1, 3, 64} {
			openFails(t, d, dim, api.ErrStoreSpoilt)
		}
		s = opened(t, d, 2)
		rowsAre(t, s, row(1, 3, 4))
		ok(t, s.Snapshot())
	}
}

// Whatever a disk has, it is opened, or refused by a fixed answer.
func TestAnyDisk(t *testing.T) {
	t.Parallel()
	rows, _ := codec.PutRows([]api.Row{row(1, 3, 4)})
	parts := []string{"", "x", "\x00", "1\n", "2\n" + rows, string(record(2, "0\n"+rows)), string(record(2, "1\n"+rows)), text(t, put(1, 3, 4)), string(record(1, text(t, put(1, 3, 4)))), string(record(1, text(t, gone(1)))), string(record(1, ""))}
	names := []string{"rows", "rows.new", "log.1", "log.2", "log.3", "log.0", "log.-1", "log.x", "log.new", "log.9223372036854775807", "log.01", "other"}
	answers := map[api.Errno]int{}
	for seed := range 20000 {
		draw := drawn(uint64(seed))
		d := newDisk(t, 4000)
		for range 1 + draw(5) {
			name := names[draw(1+draw(len(names)))]
			d.Create(name)
			for range draw(4) {
				ok(t, d.Append(name, []byte(parts[draw(len(parts))])))
			}
		}
		s, e := Open(d, 2)
		answers[e]++
		if e == api.OK && (s == nil || s.Len() != len(s.Rows()) || s.Seq() < 0) || e != api.OK && s != nil {
			t.Fatalf("P19.1: disk %d: %v, %d", seed, s, e)
		}
		s.Put(row(1, 1, 1))
		s.Snapshot()
	}
	if answers[api.OK] == 0 || answers[api.ErrStoreSpoilt] == 0 {
		t.Errorf("R1: %v", answers)
	}
}

// Lists that are handed in are neither written into nor kept, and lists that come out are new.
func TestNewMemory(t *testing.T) {
	d := newDisk(t, api.MaxRoom)
	s := opened(t, d, 2)
	spare := []int{3, 4, 77, 78}
	putIs(t, s, api.Row{Id: 1, V: spare[:2]}, 1, api.OK)
	ok(t, s.Snapshot())
	if !slices.Equal(spare, []int{3, 4, 77, 78}) {
		t.Errorf("R2: %v", spare)
	}
	spare[0] = 99
	putIs(t, s, row(2, 5, 5), 2, api.OK)
	for _, x := range []*Store{s, opened(t, d.Clone(), 2)} {
		for range 2 {
			rowsAre(t, x, row(1, 3, 4), row(2, 5, 5))
			v, _ := x.Get(1)
			rows := x.Rows()
			for _, list := range [][]int{v, rows[0].V, rows[1].V} {
				if list[0] = -1; cap(list) > 2 {
					list[:3][2] = -1
				}
			}
		}
	}
	for range 2 {
		sinceIs(t, s, 0, put(1, 3, 4), put(2, 5, 5))
		changes, _ := s.Since(0)
		changes[0].V[0], changes[1].V[1] = -1, -1
		changes[1].Id = 7
		_ = append(changes[:1], gone(1))
		rowsAre(t, s, row(1, 3, 4), row(2, 5, 5))
	}
}

// Stores on two disks know nothing of one another.
func TestApart(t *testing.T) {
	d := newDisk(t, api.MaxRoom)
	s := opened(t, d, 1)
	putIs(t, s, row(1, 1), 1, api.OK)
	other := d.Clone()
	x := opened(t, other, 1)
	putIs(t, x, row(2, 2), 2, api.OK)
	ok(t, x.Snapshot())
	putIs(t, s, row(3, 3), 2, api.OK)
	rowsAre(t, s, row(1, 1), row(3, 3))
	rowsAre(t, x, row(1, 1), row(2, 2))
	sinceIs(t, s, 0, put(1, 1), put(3, 3))
	sinceIs(t, x, 1, put(2, 2))
}

func TestNil(t *testing.T) {
	for _, s := range []*Store{nil, {}} {
		putIs(t, s, row(1, 1), 0, api.ErrNil)
		putIs(t, s, row(0), 0, api.ErrNil)
		deleteIs(t, s, 1, 0, api.ErrNil)
		is(t, "R3", s.Sync(), api.ErrNil)
		is(t, "R3", s.Snapshot(), api.ErrNil)
		if v, e := s.Get(1); v != nil || e != api.ErrNil {
			t.Errorf("R3: Get: %v, %d", v, e)
		}
		if l, e := s.Since(-1); l != nil || e != api.ErrNil {
			t.Errorf("R3: Since: %v, %d", l, e)
		}
		if s.Len() != 0 || len(s.Rows()) != 0 || s.Seq() != 0 || s.Safe() != 0 {
			t.Errorf("R3: %d, %v, %d, %d", s.Len(), s.Rows(), s.Seq(), s.Safe())
		}
	}
}

// Only an error's number ends an attempt: what is wrong with the program itself is not taken for an answer.
func TestAttempt(t *testing.T) {
	is(t, "R1", attempt(func() {}), api.OK)
	is(t, "R1", attempt(func() { demand(api.OK) }), api.OK)
	is(t, "R1", attempt(func() { demand(api.ErrDiskFull) }), api.ErrDiskFull)
	is(t, "R1", attempt(func() { got(strconv.Itoa(1), api.ErrLong) }), api.ErrLong)
	defer func() {
		if x := fmt.Sprint(recover()); x != "other" {
			t.Errorf("R1: %s", x)
		}
	}()
	attempt(func() { panic("other") })
}
