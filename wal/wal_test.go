package wal

import (
	"fmt"
	"math"
	"slices"
	"strings"
	"testing"

	"theodolite/api"
	"theodolite/codec"
	"theodolite/disk"
)

// opened opens the log and asks for its records' data; the last one's number is the log's Last.
func opened(t *testing.T, d *disk.Disk, last int, want ...string) *Log {
	t.Helper()
	l, records, e := Open(d)
	if l == nil || e != api.OK {
		t.Fatalf("P18.1: Open: %v, %d", l, e)
	}
	var expected []api.Record
	for i, data := range want {
		expected = append(expected, api.Record{Seq: last - len(want) + 1 + i, Data: data})
	}
	if !slices.Equal(records, expected) {
		t.Fatalf("P18.1: Open: %.300q: want %.300q", fmt.Sprint(records), fmt.Sprint(expected))
	}
	numbersAre(t, l, last-len(want)+1, last, last)
	return l
}

func openFails(t *testing.T, d *disk.Disk, want api.Errno) {
	t.Helper()
	if l, records, e := Open(d); l != nil || len(records) != 0 || e != want {
		t.Errorf("P18.1: Open: %v, %v, %d: want %d", l, records, e, want)
	}
}

// numbersAre asks for First and Last, and that Synced is from a number on.
func numbersAre(t *testing.T, l *Log, first, last, synced int) {
	t.Helper()
	if l.First() != first || l.Last() != last || l.Synced() < synced || l.Synced() > last {
		t.Errorf("P18.3, P18.4: First %d, Last %d, Synced %d: want %d, %d, %d", l.First(), l.Last(), l.Synced(), first, last, synced)
	}
}

// appended appends, and asks for the numbers.
func appended(t *testing.T, l *Log, first int, data ...string) {
	t.Helper()
	for i, x := range data {
		if n, e := l.Append(x); n != first+i || e != api.OK {
			t.Fatalf("P18.2: Append(%.40q): %d, %d: want %d", x, n, e, first+i)
		}
	}
}

func appendFails(t *testing.T, l *Log, data string, want api.Errno) {
	t.Helper()
	last := l.Last()
	if n, e := l.Append(data); n != 0 || e != want || l.Last() != last {
		t.Errorf("P18.2: Append of %d bytes: %d, %d, Last %d: want %d, %d", len(data), n, e, l.Last(), want, last)
	}
}

func ok(t *testing.T, got ...api.Errno) {
	t.Helper()
	for i, e := range got {
		if e != api.OK {
			t.Fatalf("the answer at %d is %d", i, e)
		}
	}
}

func is(t *testing.T, promise string, got, want api.Errno) {
	t.Helper()
	if got != want {
		t.Errorf("%s: %d: want %d", promise, got, want)
	}
}

// crashed is a clone that crashed; the disk itself is as it was.
func crashed(d *disk.Disk, choices ...int) *disk.Disk {
	x := d.Clone()
	x.Crash(choices...)
	return x
}

// others makes files that are not the log's.
func others(t *testing.T, d *disk.Disk, n int) {
	t.Helper()
	for i := range n {
		ok(t, d.Create(fmt.Sprint("other", i)))
	}
	ok(t, d.SyncDir())
}

// The chapter's table, line by line.
func TestExamples(t *testing.T) {
	d := newDisk(t, 4194304)
	l := opened(t, d, 0)
	appended(t, l, 1, "a", "b")
	numbersAre(t, l, 1, 2, 0)
	ok(t, l.Sync())
	numbersAre(t, l, 1, 2, 2)
	appended(t, l, 3, "c")
	lost, kept := crashed(d, 0, 0), crashed(d, 0, 1000)
	if b, _ := crashed(d, 0, 9).Read("log.1"); len(b) == 0 {
		t.Error("the record is not where this test looks for it")
	}
	opened(t, lost, 2, "a", "b")
	for _, x := range []*disk.Disk{d, lost, kept} {
		l, records, e := Open(x)
		ok(t, e)
		is(t, "P18.4: Cut(9)", l.Cut(9), api.ErrWalCut)
		is(t, "P18.4: Cut(2)", l.Cut(2), api.OK)
		again, left, e := Open(x)
		if e != api.OK || again.Last() != len(records) || len(left) > 0 && !slices.Equal(left, records[len(records)-len(left):]) || len(left) < len(records)-2 {
			t.Errorf("P18.1: Open behind Cut(2): %v of %v, %d", left, records, e)
		}
	}
	appendFails(t, opened(t, d, 3, "a", "b", "c"), strings.Repeat("x", 65537), api.ErrLong)
}

func TestOpen(t *testing.T) {
	openFails(t, nil, api.ErrNil)
	openFails(t, &disk.Disk{}, api.ErrNil)
	for _, room := range []int{1, 999, 1000, 1001, 4194304} {
		d := newDisk(t, room)
		l := opened(t, d, 0)
		ok(t, l.Sync(), l.Cut(0))
		opened(t, d, 0)
		opened(t, crashed(d, 3, 3), 0)
		opened(t, crashed(d, 0), 0)
	}
	d := newDisk(t, 1000)
	ok(t, d.Stop(0))
	openFails(t, d, api.ErrDiskDown)
	ok(t, d.Crash())
	appended(t, opened(t, d, 0), 1, "a")
	ok(t, d.Stop(0))
	openFails(t, d, api.ErrDiskDown)

	d = newDisk(t, 1000)
	others(t, d, api.MaxFiles)
	openFails(t, d, api.ErrDiskMany)
	ok(t, d.Remove("other5"))
	l := opened(t, d, 0)
	appended(t, l, 1, "a")
	opened(t, d, 1, "a")
}

// What is told is safe: a crash right behind Open takes nothing, whether it was synced ahead of that or not.
func TestOpenMakesSafe(t *testing.T) {
	d := newDisk(t, api.MaxRoom)
	l := opened(t, d, 0)
	data := []string{"a", strings.Repeat("b", 20000), "c", strings.Repeat("d", 20000), "e"}
	appended(t, l, 1, data...)
	opened(t, d, 5, data...)
	for _, choices := range [][]int{nil, {0, 0, 0}, {1, 5, 5}, {2, -9, -9}} {
		opened(t, crashed(d, choices...), 5, data...)
	}
}

// Files of others with names like the log's do not matter, and are left as they are.
func TestOtherFiles(t *testing.T) {
	names := []string{"a.log.1", "log", "log-1", "log1", "logs.1", "rows", "l.og.1", "-log.1", "1"}
	d := newDisk(t, api.MaxRoom)
	for _, name := range names {
		b, _ := codec.Encode(1, name)
		ok(t, d.Create(name), d.Append(name, b), d.Sync(name))
	}
	l := opened(t, d, 0)
	appended(t, l, 1, "a", strings.Repeat("b", 20000), "c")
	ok(t, l.Cut(2), l.Sync(), d.Crash(1, 2, 3))
	l = opened(t, d, 3, "c")
	ok(t, l.Cut(3), l.Sync())
	for _, name := range names {
		b, e := d.Read(name)
		ok(t, e)
		if _, body, _, e := codec.Decode(b); body != name || e != api.OK {
			t.Errorf("the file %s: %q, %d", name, b, e)
		}
	}
	if got := len(d.Names()) - len(logNames(d)); got != len(names) {
		t.Errorf("%d files of others are left", got)
	}
}

func TestAppend(t *testing.T) {
	d := newDisk(t, api.MaxRoom)
	l := opened(t, d, 0)
	var all []string
	for i := range 256 {
		all = append(all, string([]byte{byte(i)}))
	}
	nested := "x"
	for range 5 {
		b, _ := codec.Encode(1, nested+nested)
		nested = string(b)
	}
	all = append(all, "", "", nested, nested[:20], strings.Repeat("\x00", 100), strings.Repeat("\xff", 65535), strings.Repeat("\x00", 65536), "", "last")
	appended(t, l, 1, all...)
	opened(t, d, len(all), all...)
	l = opened(t, crashed(d, 9), len(all), all...)
	for _, n := range []int{65537, 65538, 262144, 262145, 1000000} {
		appendFails(t, l, strings.Repeat("x", n), api.ErrLong)
	}
	appended(t, l, len(all)+1, "on")
}

// A record that an error kept from being one takes no number, and is not told.
func TestAppendErrors(t *testing.T) {
	d := newDisk(t, 40000)
	l := opened(t, d, 0)
	appended(t, l, 1, strings.Repeat("a", 20000))
	appendFails(t, l, strings.Repeat("b", 20000), api.ErrDiskFull)
	appendFails(t, l, strings.Repeat("b", 20000), api.ErrDiskFull)
	opened(t, d.Clone(), 1, strings.Repeat("a", 20000))
	appended(t, l, 2, "c")
	opened(t, d.Clone(), 2, strings.Repeat("a", 20000), "c")
	ok(t, l.Sync(), d.Stop(0))
	appendFails(t, l, strings.Repeat("x", 65537), api.ErrLong)
	appendFails(t, l, "d", api.ErrDiskDown)
	ok(t, d.Crash(5, 5, 5))
	opened(t, d, 2, strings.Repeat("a", 20000), "c")

	// A new file may be wanted, and not be had, or be had without the record.
	for steps := range 4 {
		d = newDisk(t, api.MaxRoom)
		l = opened(t, d, 0)
		appended(t, l, 1, strings.Repeat("a", 20000))
		ok(t, l.Sync(), d.Stop(steps))
		n, e := l.Append("b")
		if steps == 3 {
			is(t, "P18.2", e, api.OK)
			continue
		}
		is(t, "P18.2", e, api.ErrDiskDown)
		if n != 0 || l.Last() != 1 {
			t.Errorf("P18.2: %d, Last %d", n, l.Last())
		}
		ok(t, d.Crash(1, 30000, 30000))
		appended(t, opened(t, d, 1, strings.Repeat("a", 20000)), 2, "c")
		opened(t, d, 2, strings.Repeat("a", 20000), "c")
	}
}

func TestSync(t *testing.T) {
	d := newDisk(t, api.MaxRoom)
	l := opened(t, d, 0)
	for i := range 12 {
		appended(t, l, i+1, strings.Repeat(string(rune('a'+i)), 6000))
		if i%3 == 1 {
			ok(t, l.Sync())
			numbersAre(t, l, 1, i+1, i+1)
		}
		safe := l.Synced()
		for _, choices := range [][]int{nil, {0, -9, -9, -9}, {1, 700, 700, 700}, {2, 7, 7, 7, 7}} {
			x, records, e := Open(crashed(d, choices...))
			if e != api.OK || x.Last() < safe || x.Last() != len(records) {
				t.Fatalf("P18.3: %d are safe, %d are told, %d", safe, len(records), e)
			}
		}
	}
	appended(t, l, 13, "m")
	ok(t, d.Stop(0))
	safe := l.Synced()
	is(t, "P18.3", l.Sync(), api.ErrDiskDown)
	numbersAre(t, l, 1, 13, 0)
	if l.Synced() != safe {
		t.Errorf("P18.3: Synced %d behind a Sync that failed, %d ahead", l.Synced(), safe)
	}
}

// Of a torn tail nothing comes back, though its data looks like records, and whatever is appended behind it.
func TestTorn(t *testing.T) {
	one, _ := codec.Encode(1, "forged")
	forged := strings.Repeat(string(one), 4)
	d := newDisk(t, api.MaxRoom)
	l := opened(t, d, 0)
	appended(t, l, 1, "safe")
	ok(t, l.Sync())
	appended(t, l, 2, forged, forged[1:])
	tail := 2*9 + len(forged) + len(forged) - 1
	want := []string{"safe", forged, forged[1:]}
	for n := range tail + 1 {
		whole := 1
		if n >= 9+len(forged) {
			whole = 2
		}
		if n == tail {
			whole = 3
		}
		goesOn(t, crashed(d, 0, n), want[:whole])
		goesOn(t, crashed(d, 0, -n-1), want[:1])
	}
}

// goesOn opens a log behind a crash, appends, crashes again, and so on.
func goesOn(t *testing.T, d *disk.Disk, want []string) {
	t.Helper()
	l := opened(t, d, len(want), want...)
	appended(t, l, len(want)+1, "next", "next but one")
	last := slices.Concat(want, []string{"next", "next but one"})
	opened(t, d.Clone(), len(last), last...)
	_, records, e := Open(crashed(d, 2, 15))
	if e != api.OK || len(records) < len(want) || len(records) > len(last) {
		t.Fatalf("P18.1: %v, %d", records, e)
	}
	ok(t, l.Sync())
	opened(t, crashed(d, 0), len(last), last...)
	l = opened(t, crashed(d, 2, -3), len(last), last...)
	appended(t, l, len(last)+1, "on")
}

// However often a crash tears the log, it goes on, and its files do not become more.
func TestTornOften(t *testing.T) {
	d := newDisk(t, api.MaxRoom)
	var want []string
	for i := range 200 {
		l := opened(t, d, len(want), want...)
		want = append(want, fmt.Sprint("record ", i))
		appended(t, l, i+1, want[i])
		ok(t, l.Sync())
		steps := d.Steps()
		appended(t, l, i+2, "lost")
		if d.Steps() != steps+1 {
			t.Fatalf("a second Append behind a crash takes %d steps", d.Steps()-steps)
		}
		choices := slices.Repeat([]int{5 - 11*(i%2)}, 100)
		choices[0] = i % 3
		ok(t, d.Crash(choices...))
		if n := len(logNames(d)); n > 2 {
			t.Fatalf("P18.4: %d files behind %d crashes", n, i)
		}
	}
	// Nor if it is not appended to, or if nothing of it is safe.
	for range 70 {
		opened(t, d, len(want), want...)
		ok(t, d.Crash(1, 1, 1))
	}
	d = newDisk(t, api.MaxRoom)
	for range 70 {
		appended(t, opened(t, d, 0), 1, "lost")
		ok(t, d.Crash(1, 5, 5))
	}
	if n := len(logNames(d)); n > 2 {
		t.Errorf("P18.4: %d files", n)
	}
}

func TestCutErrors(t *testing.T) {
	d := newDisk(t, api.MaxRoom)
	l := opened(t, d, 0)
	for _, seq := range []int{math.MinInt, -1, 1, math.MaxInt} {
		is(t, "P18.4: Cut of nothing", l.Cut(seq), api.ErrWalCut)
	}
	appended(t, l, 1, "a", strings.Repeat("b", 20000), "c")
	for _, seq := range []int{math.MinInt, -1, 4, 5, math.MaxInt} {
		is(t, "P18.4", l.Cut(seq), api.ErrWalCut)
	}
	opened(t, d.Clone(), 3, "a", strings.Repeat("b", 20000), "c")
	ok(t, d.Stop(0))
	is(t, "P18.4", l.Cut(4), api.ErrWalCut)
	is(t, "P18.4", l.Cut(2), api.ErrDiskDown)
	is(t, "P18.4", l.Cut(3), api.ErrDiskDown)
	numbersAre(t, l, 1, 3, 0)
}

// Cut removes the segments that are wholly cut, the least ones first, and First tells it.
func TestCut(t *testing.T) {
	for seq := range 51 {
		d := newDisk(t, api.MaxRoom)
		l := opened(t, d, 0)
		var all []string
		for i := range 50 {
			all = append(all, strings.Repeat("x", 2000+i))
		}
		appended(t, l, 1, all...)
		ok(t, l.Cut(seq))
		first := l.First()
		if first < 1 || first > seq+1 || seq-first > 9 || seq == 50 && first != 51 {
			t.Errorf("P18.4: Cut(%d): First %d", seq, first)
		}
		opened(t, d.Clone(), 50, all[first-1:]...)
		ok(t, l.Cut(seq/2), l.Cut(0))
		if l.First() != first {
			t.Errorf("P18.4: First %d behind lesser Cuts, %d ahead", l.First(), first)
		}
		ok(t, l.Sync())
		x := crashed(d, 5, 5, 5)
		opened(t, x, 50, all[first-1:]...)
		appended(t, opened(t, x, 50, all[first-1:]...), 51, "on")
		appended(t, l, 51, "on")
	}
}

// Wherever a Cut stops, the records that are left are some last ones, with all that are not cut.
func TestCutStops(t *testing.T) {
	for _, seq := range []int{1, 3, 4, 5} {
		for steps := range 9 {
			h := newTold(t, api.MaxRoom, 0)
			ok(t, h.open())
			for _, n := range []int{17000, 17000, 17000, 17000, 5} {
				ok(t, h.append(h.text(n)))
			}
			ok(t, h.sync(), h.append("not safe"), h.d.Stop(steps))
			h.cut(seq)
			h.check()
			for names := range 8 {
				c := h.copied()
				c.crash(names, 3, 3, 3, 3, 3)
				ok(t, c.open())
				c.check()
				ok(t, c.append("on"))
			}
		}
	}
}

// Behind Cut(Last) no record is told, and numbers go on behind the greatest: at once, and behind any crash; there are at most two files, and small ones.
func TestCutAll(t *testing.T) {
	for n := range 40 {
		h := newTold(t, api.MaxRoom, 0)
		ok(t, h.open())
		for i := range n {
			ok(t, h.append(h.text([]int{5, 3000, 17000, 65536}[i%4])))
		}
		ok(t, h.cut(n))
		numbersAre(t, h.l, n+1, n, 0)
		opened(t, h.d.Clone(), n)
		ok(t, h.sync())
		h.check()
		for names := range 3 {
			x := crashed(h.d, names, 5, 5)
			appended(t, opened(t, x, n), n+1, "on")
		}
		ok(t, h.append("on"), h.cut(n+1), h.append("and on"), h.sync())
		opened(t, crashed(h.d), n+2, "and on")
	}
}

// A log that is never cut goes on till the disk is full, and leaves others some names; when it is cut, all is there again.
func TestLongLog(t *testing.T) {
	d := newDisk(t, api.MaxRoom)
	l := opened(t, d, 0)
	var all []string
	for {
		data := strings.Repeat(fmt.Sprint(len(all)), 5000)
		n, e := l.Append(data)
		if e == api.ErrDiskFull {
			break
		}
		all = append(all, data)
		if n != len(all) || e != api.OK {
			t.Fatalf("P18.2: %d, %d, want %d", n, e, len(all))
		}
	}
	ok(t, d.Create("rows"), d.Create("rows.new"), l.Sync(), d.Crash(0, 0))
	l = opened(t, d, len(all), all...)
	ok(t, l.Cut(len(all)/2))
	first := l.First()
	if first < len(all)/4 || first > len(all)/2+1 {
		t.Errorf("P18.4: First %d of %d behind Cut of half of it", first, len(all))
	}
	appended(t, l, len(all)+1, strings.Repeat("x", 17000), strings.Repeat("y", 17000))
	ok(t, l.Cut(len(all)+2), l.Sync())
	if n := len(logNames(d)); n > 2 || d.Used() > 2*16484 {
		t.Errorf("P18.4: %d files, %d bytes", n, d.Used())
	}
	appended(t, opened(t, d, len(all)+2), len(all)+3, "on")
}

// A full disk keeps no log from being opened and cut, torn or not, though there is just one more name.
func TestFullDisk(t *testing.T) {
	for _, choice := range []int{0, 12000, -12001, 14009} {
		d := newDisk(t, 30000)
		others(t, d, 62)
		l := opened(t, d, 0)
		a, b := strings.Repeat("a", 14000), strings.Repeat("b", 14000)
		appended(t, l, 1, a)
		ok(t, l.Sync())
		appended(t, l, 2, b)
		ok(t, d.Crash(0, choice))
		want := []string{a}
		if choice == 14009 {
			want = append(want, b)
		}
		l = opened(t, d, len(want), want...)
		appended(t, l, len(want)+1, "c")
		want = append(want, "c")
		appendFails(t, l, strings.Repeat("x", 30000), api.ErrDiskFull)
		ok(t, l.Sync())
		l = opened(t, crashed(d, 1), len(want), want...)
		l = opened(t, d, len(want), want...)
		ok(t, l.Cut(len(want)), l.Sync())
		if d.Used() != 0 {
			t.Errorf("P18.4: %d bytes are left", d.Used())
		}
		appended(t, l, len(want)+1, strings.Repeat("x", 29000))
		opened(t, d, len(want)+1, strings.Repeat("x", 29000))
	}
}

// A crash may bring back more bytes than there is room for: then a torn log is opened, cut and mended all the same.
func TestOverfullDisk(t *testing.T) {
	d := newDisk(t, 30000)
	l := opened(t, d, 0)
	appended(t, l, 1, strings.Repeat("a", 25000))
	ok(t, l.Sync(), l.Cut(1))
	appended(t, l, 2, strings.Repeat("b", 25000))
	for _, choice := range []int{24000, -24001} {
		x := crashed(d, 1, 0, choice)
		if x.Used() != 25009+24000 {
			t.Fatalf("%d bytes are left", x.Used())
		}
		l = opened(t, x, 1, strings.Repeat("a", 25000))
		appended(t, l, 2, "c")
		ok(t, l.Sync())
		opened(t, crashed(x), 2, strings.Repeat("a", 25000), "c")
	}
	x := crashed(d, 1, 0, 24000)
	l = opened(t, x, 1, strings.Repeat("a", 25000))
	ok(t, l.Cut(1), l.Sync())
	appended(t, opened(t, x, 1), 2, "c")
}

// Where names are scarce, a log does without a new one, if it can.
func TestFewNames(t *testing.T) {
	d := newDisk(t, api.MaxRoom)
	others(t, d, 63)
	l := opened(t, d, 0)
	big := strings.Repeat("x", 20000)
	appended(t, l, 1, big, big, "a")
	is(t, "P18.4", l.Cut(3), api.ErrDiskMany)
	ok(t, l.Sync())
	appended(t, l, 4, "lost")
	ok(t, d.Crash(0, 5))
	l = opened(t, d, 3, big, big, "a")
	appendFails(t, l, "b", api.ErrDiskMany)
	appendFails(t, l, "b", api.ErrDiskMany)
	ok(t, d.Remove("other1"))
	appended(t, l, 4, "b")
	ok(t, l.Cut(3))
	opened(t, d.Clone(), 4, big, big, "a", "b")
	ok(t, l.Cut(4))
	opened(t, d.Clone(), 4)

	// Then a file may be long, but it is gone when all is cut, though none of its records was safe.
	d = newDisk(t, api.MaxRoom)
	others(t, d, 61)
	appended(t, opened(t, d, 0), 1, big, big, big)
	ok(t, d.Crash(0, -50001))
	l = opened(t, d, 0)
	ok(t, l.Cut(0), l.Sync())
	if d.Used() > 16484+len(big) {
		t.Errorf("P18.4: %d bytes are left", d.Used())
	}

	// A torn log without any record.
	d = newDisk(t, api.MaxRoom)
	others(t, d, 63)
	appended(t, opened(t, d, 0), 1, "lost")
	ok(t, d.Crash(0, 5))
	l = opened(t, d, 0)
	appendFails(t, l, "a", api.ErrDiskMany)
	ok(t, d.Remove("other1"))
	appended(t, l, 1, "a")
	ok(t, l.Sync())
	opened(t, crashed(d), 1, "a")
}

// A log that is torn again and again, with much that is safe between, takes the last names from nobody.
func TestTornOftenFewNames(t *testing.T) {
	d := newDisk(t, api.MaxRoom)
	others(t, d, 55)
	var want []string
	for i := range 30 {
		l := opened(t, d, len(want), want...)
		want = append(want, strings.Repeat("x", 17000+i))
		appended(t, l, i+1, want[i])
		ok(t, l.Sync())
		appended(t, l, i+2, "lost")
		ok(t, d.Crash(slices.Repeat([]int{5}, 100)...))
		if n := len(d.Names()); n > api.MaxFiles-leftNames {
			t.Fatalf("%d names behind %d crashes", n, i+1)
		}
	}
	opened(t, d, len(want), want...)
}

// Two logs on two disks know nothing of one another, and a clone goes on by itself.
func TestApart(t *testing.T) {
	d, other := newDisk(t, 1000), newDisk(t, 1000)
	l, m := opened(t, d, 0), opened(t, other, 0)
	appended(t, l, 1, "a", "b")
	appended(t, m, 1, "x")
	twin := d.Clone()
	n := opened(t, twin, 2, "a", "b")
	appended(t, n, 3, "t")
	appended(t, l, 3, "c")
	opened(t, d, 3, "a", "b", "c")
	opened(t, twin, 3, "a", "b", "t")
	opened(t, other, 1, "x")
}

// R3, and a log that Open did not give.
func TestNil(t *testing.T) {
	for _, l := range []*Log{nil, {}} {
		if n, e := l.Append(strings.Repeat("x", 65537)); n != 0 || e != api.ErrNil {
			t.Errorf("R3: Append: %d, %d", n, e)
		}
		is(t, "R3: Sync", l.Sync(), api.ErrNil)
		is(t, "R3: Cut", l.Cut(-1), api.ErrNil)
		if l.Synced() != 0 || l.Last() != 0 || l.First() != 0 {
			t.Errorf("R3: %d, %d, %d", l.Synced(), l.Last(), l.First())
		}
	}
}

// Of a log whose disk has crashed nothing is promised, but that its calls end (R1).
func TestDead(t *testing.T) {
	for names := range 4 {
		d := newDisk(t, api.MaxRoom)
		l := opened(t, d, 0)
		appended(t, l, 1, strings.Repeat("a", 10000), "b")
		ok(t, d.Crash(0, 10020))
		l, _, _ = Open(d)
		ok(t, d.Remove("log.1"), d.Create("log.1"), d.Append("log.1", []byte("x")), d.Crash(names, 1))
		l.Append("c")
		l.Cut(l.Last())
		l.Sync()
		l.First()
		Open(d)
	}
}
