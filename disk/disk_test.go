package disk

import (
	"bytes"
	"fmt"
	"math"
	"slices"
	"strings"
	"testing"

	"theodolite/api"
)

func made(t *testing.T, room int) *Disk {
	t.Helper()
	d, e := New(room)
	if d == nil || e != api.OK {
		t.Fatalf("P17.1: New(%d): %v, %d", room, d, e)
	}
	return d
}

// is asks of answers, in their order, whether they are these.
func is(t *testing.T, promise string, got []api.Errno, want ...api.Errno) {
	t.Helper()
	if !slices.Equal(got, want) {
		t.Errorf("%s: %v: want %v", promise, got, want)
	}
}

func answers(e ...api.Errno) []api.Errno { return e }

// ok asks that all of these are OK.
func ok(t *testing.T, got ...api.Errno) {
	t.Helper()
	for i, e := range got {
		if e != api.OK {
			t.Fatalf("the answer at %d is %d", i, e)
		}
	}
}

func readIs(t *testing.T, d *Disk, name, want string) {
	t.Helper()
	if b, e := d.Read(name); string(b) != want || e != api.OK {
		t.Errorf("P17.6: Read(%q): %.40q, %d: want %.40q", name, b, e, want)
	}
}

func readFails(t *testing.T, d *Disk, name string, want api.Errno) {
	t.Helper()
	if b, e := d.Read(name); len(b) != 0 || e != want {
		t.Errorf("P17.6: Read(%q): %q, %d: want %d", name, b, e, want)
	}
}

func namesAre(t *testing.T, d *Disk, want ...string) {
	t.Helper()
	if got := d.Names(); !slices.Equal(got, want) {
		t.Errorf("P17.6: Names: %q: want %q", got, want)
	}
}

// countsAre asks for Used and Steps.
func countsAre(t *testing.T, d *Disk, used, steps int) {
	t.Helper()
	if u, s := d.Used(), d.Steps(); u != used || s != steps {
		t.Errorf("P17.6, P17.7: %d used, %d steps: want %d, %d", u, s, used, steps)
	}
}

// crashed is a clone that crashed; the disk itself is as it was.
func crashed(t *testing.T, d *Disk, choices ...int) *Disk {
	t.Helper()
	x := d.Clone()
	if e := x.Crash(choices...); e != api.OK || x.Down() {
		t.Fatalf("P17.8: Crash%v: %d, %v", choices, e, x.Down())
	}
	return x
}

// The chapter's table, line by line.
func TestExamples(t *testing.T) {
	if d, e := New(0); d != nil || e != api.ErrArg {
		t.Errorf("P17.1: %v, %d", d, e)
	}
	d := made(t, 4)
	is(t, "P17.2", answers(d.Create("a"), d.Create("a"), d.Create("A"), d.Append("b", []byte("x"))), api.OK, api.ErrDiskThere, api.ErrDiskName, api.ErrDiskNone)
	is(t, "P17.3", answers(d.Append("a", []byte{1, 2, 3}), d.Append("a", []byte{4, 5})), api.OK, api.ErrDiskFull)
	countsAre(t, d, 3, 2)
	is(t, "P17.4", answers(d.Sync("a"), d.Append("a", []byte{9})), api.OK, api.OK)
	namesAre(t, crashed(t, d))
	ok(t, d.SyncDir())
	readIs(t, crashed(t, d, 0, 1), "a", "\x01\x02\x03\x09")
	readIs(t, crashed(t, d, 0, -2), "a", "\x01\x02\x03\x00")
	readIs(t, crashed(t, d, 0, 0), "a", "\x01\x02\x03")

	d = made(t, 100)
	ok(t, d.Create("a"), d.SyncDir(), d.Create("b"), d.Rename("a", "c"))
	namesAre(t, crashed(t, d, 1), "a", "b")
	namesAre(t, crashed(t, d, 2), "b", "c")
	namesAre(t, crashed(t, d, 3), "a")

	d = made(t, 100)
	is(t, "P17.7", answers(d.Stop(1), d.Create("x"), d.Create("y")), api.OK, api.OK, api.ErrDiskDown)
	if !d.Down() {
		t.Error("P17.7: it is not down")
	}
	namesAre(t, d)
	ok(t, d.Crash(1))
	namesAre(t, d, "x")
}

func TestNew(t *testing.T) {
	for _, room := range []int{math.MinInt, -1, 0, api.MaxRoom + 1, 1<<32 + 1, math.MaxInt} {
		if d, e := New(room); d != nil || e != api.ErrArg {
			t.Errorf("P17.1: New(%d): %v, %d", room, d, e)
		}
	}
	for _, room := range []int{1, 2, 4194303, 4194304} {
		d := made(t, room)
		namesAre(t, d)
		countsAre(t, d, 0, 0)
		if d.Down() {
			t.Errorf("P17.1: New(%d) is down", room)
		}
		readFails(t, d, "a", api.ErrDiskNone)
		namesAre(t, crashed(t, d, 5, 5, 5))
	}
}

// nameIs asks of Create and of Rename whether s is a file's name.
func nameIs(t *testing.T, s string, may bool) {
	t.Helper()
	want := api.ErrDiskName
	if may {
		want = api.OK
	}
	d := made(t, 10)
	if e := d.Create(s); e != want {
		t.Errorf("P17.2: Create(%q): %d: want %d", s, e, want)
	}
	d = made(t, 10)
	ok(t, d.Create("z"))
	if e := d.Rename("z", s); e != want {
		t.Errorf("P17.5: Rename to %q: %d: want %d", s, e, want)
	}
	if !may {
		s = "z"
	}
	namesAre(t, d, s)
}

func TestFileNames(t *testing.T) {
	const letters = "abcdefghijklmnopqrstuvwxyz0123456789.-"
	for x := range 256 {
		one := string([]byte{byte(x)})
		may := strings.Contains(letters, one)
		for _, s := range []string{one, one + "a", "a" + one, "a" + one + "a", strings.Repeat("0", 31) + one, one + strings.Repeat("0", 31)} {
			nameIs(t, s, may)
		}
		nameIs(t, strings.Repeat("0", 32)+one, false)
	}
	for n := range 40 {
		nameIs(t, strings.Repeat("a", n), n >= 1 && n <= 32)
	}
	for _, s := range []string{".", "..", "-", "--", "log.000001", "a.b-c.9"} {
		nameIs(t, s, true)
	}
	for _, s := range []string{"ä", "aé", "日", "\u017f", "a\u0301", "\uff41", strings.Repeat("a", 100000)} {
		nameIs(t, s, false)
	}
}

// full is a disk with 64 files, f0 to f63.
func full(t *testing.T) *Disk {
	t.Helper()
	d := made(t, 100)
	for i := range 64 {
		ok(t, d.Create(fmt.Sprintf("f%d", i)))
	}
	return d
}

// No more than 64 files; what is wrong with the name itself comes first: P17.2.
func TestManyFiles(t *testing.T) {
	d := full(t)
	is(t, "P17.2", answers(d.Create("x"), d.Create("X"), d.Create(""), d.Create("f0"), d.Create("f63")), api.ErrDiskMany, api.ErrDiskName, api.ErrDiskName, api.ErrDiskThere, api.ErrDiskThere)
	countsAre(t, d, 0, 64)
	is(t, "P17.5", answers(d.Rename("f0", "x"), d.Create("f0")), api.OK, api.ErrDiskMany)
	is(t, "P17.5", answers(d.Rename("x", "f1"), d.Create("y"), d.Create("z")), api.OK, api.OK, api.ErrDiskMany)
	is(t, "P17.5", answers(d.Remove("y"), d.Create("z"), d.Create("y")), api.OK, api.OK, api.ErrDiskMany)
	if n := len(d.Names()); n != 64 {
		t.Errorf("P17.6: %d names", n)
	}
	// A file whose name is safe, but gone, does not count; one that a crash brings back does.
	d = full(t)
	ok(t, d.SyncDir(), d.Remove("f5"), d.Create("x"))
	is(t, "P17.2", answers(d.Create("y"), d.Crash(), d.Create("y"), d.Remove("f5"), d.Create("y")), api.ErrDiskMany, api.OK, api.ErrDiskMany, api.OK, api.OK)
	// A crash by which files are gone leaves room for others.
	d = full(t)
	ok(t, d.Crash(63))
	is(t, "P17.2", answers(d.Create("x"), d.Create("y")), api.OK, api.ErrDiskMany)
}

// The room is for the bytes of all files that have names, to the last byte: P17.3, P17.6.
func TestRoom(t *testing.T) {
	d := made(t, 10)
	ok(t, d.Create("a"), d.Create("b"), d.Append("a", []byte("1234")))
	is(t, "P17.3", answers(d.Append("b", []byte("1234567")), d.Append("none", make([]byte, 99)), d.Append("A", nil), d.Append("", nil)), api.ErrDiskFull, api.ErrDiskNone, api.ErrDiskNone, api.ErrDiskNone)
	ok(t, d.Append("b", []byte("123456")))
	countsAre(t, d, 10, 4)
	is(t, "P17.3", answers(d.Append("a", []byte("x")), d.Append("a", nil), d.Append("b", []byte{})), api.ErrDiskFull, api.OK, api.OK)
	readIs(t, d, "a", "1234")
	readIs(t, d, "b", "123456")
	// What has no name any more takes no room, be it safe or not.
	ok(t, d.Sync("a"), d.SyncDir(), d.Remove("a"))
	countsAre(t, d, 6, 9)
	is(t, "P17.3", answers(d.Append("b", []byte("12345")), d.Append("b", []byte("7890"))), api.ErrDiskFull, api.OK)
	countsAre(t, d, 10, 10)
	ok(t, d.Create("c"), d.Rename("c", "b"))
	countsAre(t, d, 0, 12)
	ok(t, d.Append("b", []byte("0123456789")))
	is(t, "P17.3", answers(d.Append("b", []byte("x"))), api.ErrDiskFull)
}

// A crash may bring back more bytes than there is room for: nothing can be appended then, not even nothing.
func TestCrashBeyondTheRoom(t *testing.T) {
	d := made(t, 4)
	ok(t, d.Create("a"), d.Create("b"), d.SyncDir(), d.Append("a", []byte("1234")), d.Sync("a"), d.Remove("a"), d.Append("b", []byte("5678")), d.Sync("b"), d.Crash())
	namesAre(t, d, "a", "b")
	countsAre(t, d, 8, 8)
	is(t, "P17.3", answers(d.Append("a", nil), d.Append("b", []byte("x")), d.Create("c"), d.Append("c", nil), d.Remove("a"), d.Append("c", nil), d.Append("c", []byte("x"))), api.ErrDiskFull, api.ErrDiskFull, api.OK, api.ErrDiskFull, api.OK, api.OK, api.ErrDiskFull)
}

// The greatest room, filled.
func TestGreatestRoom(t *testing.T) {
	d := made(t, api.MaxRoom)
	all := bytes.Repeat([]byte("theodolite/disk/"), api.MaxRoom/16)
	ok(t, d.Create("a"), d.SyncDir())
	is(t, "P17.3", answers(d.Append("a", append(all, 'x')), d.Append("a", all), d.Append("a", []byte("x"))), api.ErrDiskFull, api.OK, api.ErrDiskFull)
	countsAre(t, d, api.MaxRoom, 3)
	readIs(t, d, "a", string(all))
	readIs(t, crashed(t, d, 0, api.MaxRoom), "a", string(all))
	readIs(t, crashed(t, d, 0, api.MaxRoom-1), "a", string(all[:api.MaxRoom-1]))
	readIs(t, crashed(t, d, 0, api.MaxRoom+1), "a", "")
	readIs(t, crashed(t, d, 0, -api.MaxRoom-1), "a", string(make([]byte, api.MaxRoom)))
	ok(t, d.Sync("a"))
	readIs(t, crashed(t, d), "a", string(all))
}

// Just the bytes that this file has now are safe; its name is another thing: P17.4.
func TestSync(t *testing.T) {
	d := made(t, 100)
	ok(t, d.Create("a"), d.Create("b"), d.SyncDir(), d.Append("a", []byte("12")), d.Append("b", []byte("34")), d.Sync("a"), d.Append("a", []byte("5")))
	is(t, "P17.4", answers(d.Sync("c"), d.Sync(""), d.Sync("A")), api.ErrDiskNone, api.ErrDiskNone, api.ErrDiskNone)
	x := crashed(t, d)
	readIs(t, x, "a", "12")
	readIs(t, x, "b", "")
	readIs(t, d, "a", "125")
	ok(t, d.Sync("a"), d.Sync("a"), d.Rename("a", "c"))
	readIs(t, crashed(t, d), "a", "125")
	readIs(t, crashed(t, d, 1), "c", "125")
	// Syncing by the new name makes the same file's bytes safe, whichever name survives.
	ok(t, d.Append("c", []byte("6")), d.Sync("c"))
	readIs(t, crashed(t, d), "a", "1256")
	ok(t, d.Create("n"), d.Append("n", []byte("7")), d.Sync("n"))
	readFails(t, crashed(t, d), "n", api.ErrDiskNone)
	readIs(t, crashed(t, d, 2), "n", "7")
}

func TestRename(t *testing.T) {
	d := made(t, 100)
	ok(t, d.Create("a"), d.Create("b"), d.Append("a", []byte("12")), d.Append("b", []byte("345")))
	is(t, "P17.5", answers(d.Rename("c", "X"), d.Rename("c", "a"), d.Rename("", ""), d.Rename("a", ""), d.Rename("a", "X"), d.Rename("a", strings.Repeat("a", 33))), api.ErrDiskNone, api.ErrDiskNone, api.ErrDiskNone, api.ErrDiskName, api.ErrDiskName, api.ErrDiskName)
	countsAre(t, d, 5, 4)
	ok(t, d.Rename("a", "c"))
	namesAre(t, d, "b", "c")
	readFails(t, d, "a", api.ErrDiskNone)
	readIs(t, d, "c", "12")
	ok(t, d.Create("a"))
	readIs(t, d, "a", "")
	// The one that had the name is gone.
	ok(t, d.Rename("b", "c"))
	namesAre(t, d, "a", "c")
	readIs(t, d, "c", "345")
	countsAre(t, d, 3, 7)
}

// A file that gets its own name keeps it; it is a step, and one of the changes.
func TestRenameToItself(t *testing.T) {
	d := made(t, 100)
	ok(t, d.Create("a"), d.Append("a", []byte("12")), d.SyncDir(), d.Sync("a"), d.Rename("a", "a"))
	namesAre(t, d, "a")
	readIs(t, d, "a", "12")
	countsAre(t, d, 2, 5)
	ok(t, d.Create("b"))
	for c, want := range [][]string{{"a"}, {"a"}, {"a", "b"}, {"a"}} {
		namesAre(t, crashed(t, d, c), want...)
		readIs(t, crashed(t, d, c), "a", "12")
	}
}

func TestRemove(t *testing.T) {
	d := made(t, 100)
	ok(t, d.Create("a"), d.Append("a", []byte("12")), d.Sync("a"), d.SyncDir())
	is(t, "P17.5", answers(d.Remove("b"), d.Remove(""), d.Remove("A"), d.Remove("a"), d.Remove("a")), api.ErrDiskNone, api.ErrDiskNone, api.ErrDiskNone, api.OK, api.ErrDiskNone)
	namesAre(t, d)
	readFails(t, d, "a", api.ErrDiskNone)
	countsAre(t, d, 0, 5)
	// One that has the name anew is another file: a crash brings back either.
	ok(t, d.Create("a"), d.Append("a", []byte("3")), d.Sync("a"))
	readIs(t, d, "a", "3")
	readIs(t, crashed(t, d, 0), "a", "12")
	readFails(t, crashed(t, d, 1), "a", api.ErrDiskNone)
	readIs(t, crashed(t, d, 2), "a", "3")
	ok(t, d.SyncDir())
	for c := range 5 {
		readIs(t, crashed(t, d, c), "a", "3")
	}
}

// The safe names change by SyncDir alone: P17.5.
func TestSyncDir(t *testing.T) {
	d := made(t, 100)
	ok(t, d.SyncDir(), d.Create("a"), d.Append("a", []byte("1")), d.Sync("a"))
	namesAre(t, crashed(t, d))
	ok(t, d.SyncDir())
	namesAre(t, crashed(t, d), "a")
	ok(t, d.Create("b"), d.Remove("a"), d.Append("b", nil), d.Sync("b"))
	namesAre(t, crashed(t, d), "a")
	namesAre(t, crashed(t, d, 1), "a", "b")
	namesAre(t, crashed(t, d, 2), "b")
	ok(t, d.SyncDir())
	for c := -5; c < 5; c++ {
		namesAre(t, crashed(t, d, c), "b")
	}
	// It makes no bytes safe.
	ok(t, d.Append("b", []byte("2")), d.SyncDir())
	readIs(t, crashed(t, d), "b", "")
}

// Names rise byte by byte, whatever the order in which they came: P17.6.
func TestNamesRise(t *testing.T) {
	d := made(t, 100)
	want := []string{"-", ".", "0", "10", "9", "a", "a-", "a.", "a0", "aa", "b", "z"}
	for _, i := range []int{7, 2, 11, 0, 5, 9, 1, 3, 10, 4, 8, 6} {
		ok(t, d.Create(want[i]))
	}
	for range 20 {
		namesAre(t, d, want...)
		namesAre(t, crashed(t, d, 12), want...)
	}
}

// Just the six calls are steps, if they answer OK; neither a stop nor a crash sets them back: P17.7.
func TestSteps(t *testing.T) {
	d := made(t, 3)
	calls := []func() api.Errno{
		func() api.Errno { return d.Create("a") },
		func() api.Errno { return d.Append("a", []byte("123")) },
		func() api.Errno { return d.Sync("a") },
		func() api.Errno { return d.Rename("a", "b") },
		func() api.Errno { return d.SyncDir() },
		func() api.Errno { return d.Remove("b") },
	}
	for i, call := range calls {
		if n := d.Steps(); n != i {
			t.Fatalf("P17.7: %d steps: want %d", n, i)
		}
		ok(t, call())
	}
	ok(t, d.Create("b"), d.Append("b", []byte("1")))
	for _, e := range answers(d.Create("b"), d.Create("B"), d.Append("b", []byte("123")), d.Append("c", nil), d.Sync("c"), d.Rename("c", "d"), d.Rename("b", "D"), d.Remove("c"), d.Stop(-1)) {
		if e == api.OK {
			t.Error("P17.7: a wrong call is OK")
		}
	}
	d.Read("b")
	d.Names()
	d.Used()
	d.Down()
	d.Clone()
	ok(t, d.Stop(9), d.Stop(0))
	d.Create("x")
	d.SyncDir()
	countsAre(t, d, 0, 8)
	ok(t, d.Crash())
	countsAre(t, d, 3, 8)
	ok(t, d.SyncDir())
	countsAre(t, d, 3, 9)
	if n := d.Clone().Steps(); n != 9 {
		t.Errorf("P17.9: %d steps of a clone", n)
	}
}

// isDown asks for all that P17.7 says of a disk that has stopped, at wrong arguments too.
func isDown(t *testing.T, d *Disk) {
	t.Helper()
	steps := d.Steps()
	var got []api.Errno
	for _, name := range []string{"a", "b", "new", "A", ""} {
		got = append(got, d.Create(name), d.Append(name, []byte("1")), d.Append(name, make([]byte, 1000)), d.Sync(name), d.Rename(name, "c"), d.Rename(name, "C"), d.Remove(name))
		readFails(t, d, name, api.ErrDiskDown)
	}
	got = append(got, d.SyncDir(), d.Stop(0), d.Stop(5), d.Stop(-1))
	for _, e := range got {
		if e != api.ErrDiskDown {
			t.Fatalf("P17.7: %v: want all 174", got)
		}
	}
	namesAre(t, d)
	countsAre(t, d, 0, steps)
	if !d.Down() {
		t.Error("P17.7: it is not down")
	}
}

func TestStop(t *testing.T) {
	for n := range 12 {
		d := made(t, 100)
		ok(t, d.Create("a"), d.Append("a", []byte("12")), d.Stop(n))
		for i := range n {
			if d.Down() {
				t.Fatalf("P17.7: Stop(%d) is down behind %d steps", n, i)
			}
			d.Create("a")
			d.Sync("none")
			d.Read("a")
			ok(t, d.Append("a", []byte("3")))
		}
		isDown(t, d)
		isDown(t, d.Clone())
		ok(t, d.Crash(1, 99))
		if d.Down() {
			t.Fatal("P17.8: it is down behind a crash")
		}
		for range 2 * n {
			ok(t, d.SyncDir())
		}
	}
}

// The last Stop counts, one that is refused does not, and a crash ends it: P17.7, P17.8.
func TestStopAgain(t *testing.T) {
	d := made(t, 100)
	ok(t, d.Stop(2), d.SyncDir(), d.Stop(3), d.SyncDir(), d.SyncDir())
	is(t, "P17.7", answers(d.Stop(-1), d.Stop(math.MinInt)), api.ErrArg, api.ErrArg)
	ok(t, d.SyncDir())
	isDown(t, d)
	ok(t, d.Crash(), d.Stop(5), d.Stop(1), d.SyncDir())
	isDown(t, d)
	ok(t, d.Crash(), d.Stop(1), d.Crash())
	for range 5 {
		ok(t, d.SyncDir())
	}
	ok(t, d.Stop(1), d.Stop(math.MaxInt))
	for range 5 {
		ok(t, d.SyncDir())
	}
	// Steps that were ahead of a Stop do not count.
	ok(t, d.Stop(2), d.SyncDir())
	if d.Down() {
		t.Error("P17.7: it is down too early")
	}
	ok(t, d.SyncDir())
	isDown(t, d)
}

// The stop comes behind the step that was done: what it did survives as any other one.
func TestLastStepIsDone(t *testing.T) {
	d := made(t, 100)
	ok(t, d.Create("a"), d.SyncDir(), d.Append("a", []byte("12")), d.Stop(1), d.Sync("a"), d.Crash())
	readIs(t, d, "a", "12")
	ok(t, d.Create("b"), d.Stop(1), d.SyncDir(), d.Crash())
	namesAre(t, d, "a", "b")
	ok(t, d.Stop(1), d.Remove("a"), d.Crash(1))
	namesAre(t, d, "b")
}

// What a choice says, of all numbers: P17.8.
func TestChoices(t *testing.T) {
	for n := range 9 {
		d := made(t, 100)
		ok(t, d.Create("a"), d.SyncDir(), d.Append("a", []byte("xy")), d.Sync("a"), d.Append("a", []byte("12345678"[:n])))
		for c := -40; c < 40; c++ {
			want := "xy" + "12345678"[:plainShare(c, n)]
			if c < 0 {
				want = "xy" + strings.Repeat("\x00", plainShare(c, n))
			}
			readIs(t, crashed(t, d, 0, c), "a", want)
		}
	}
	d := made(t, 100)
	ok(t, d.Create("a"), d.SyncDir(), d.Append("a", []byte("123456")))
	// 2^63 - 1 is a multiple of 7, and 2^32 leaves 4.
	readIs(t, crashed(t, d, 0, math.MaxInt), "a", "")
	readIs(t, crashed(t, d, 0, math.MaxInt-1), "a", "123456")
	readIs(t, crashed(t, d, 0, math.MinInt), "a", "")
	readIs(t, crashed(t, d, 0, math.MinInt+1), "a", "\x00\x00\x00\x00\x00\x00")
	readIs(t, crashed(t, d, 0, 1<<32), "a", "1234")
	readIs(t, crashed(t, d, 0, -1<<32), "a", "\x00\x00\x00")
}

// The first choice is of the changes: all numbers too, also those below 0.
func TestChoicesOfChanges(t *testing.T) {
	d := made(t, 100)
	states := [][]string{nil}
	for _, name := range []string{"a", "b", "c", "d", "e", "f"} {
		ok(t, d.Create(name))
		states = append(states, append(slices.Clone(states[len(states)-1]), name))
	}
	for c := -40; c < 40; c++ {
		namesAre(t, crashed(t, d, c), states[plainShare(c, 6)]...)
	}
	namesAre(t, crashed(t, d, math.MaxInt))
	namesAre(t, crashed(t, d, math.MaxInt-1), states[6]...)
	namesAre(t, crashed(t, d, math.MinInt))
	namesAre(t, crashed(t, d, math.MinInt+1), states[6]...)
}

// Each file takes a choice, by rising names as they are then, also one whose bytes are all safe; what is missing is 0.
func TestChoicesFileByFile(t *testing.T) {
	d := made(t, 100)
	for _, name := range []string{"c", "a", "b"} {
		ok(t, d.Create(name), d.Append(name, []byte(name+"1")), d.Sync(name), d.Append(name, []byte("23")))
	}
	ok(t, d.Sync("b"), d.SyncDir(), d.Rename("a", "d"))
	filesAre := func(x *Disk, want ...string) {
		t.Helper()
		var got []string
		for _, name := range x.Names() {
			b, _ := x.Read(name)
			got = append(got, name+":"+string(b))
		}
		if !slices.Equal(got, want) {
			t.Errorf("P17.8: %q: want %q", got, want)
		}
	}
	filesAre(crashed(t, d, 0, 1, 7, 2), "a:a12", "b:b123", "c:c123")
	filesAre(crashed(t, d, 1, 1, 2, 1), "b:b123", "c:c123", "d:a12")
	filesAre(crashed(t, d, 1, 0, -3, -2), "b:b123", "c:c1\x00\x00", "d:a1\x00")
	filesAre(crashed(t, d), "a:a1", "b:b123", "c:c1")
	filesAre(crashed(t, d, 1), "b:b123", "c:c1", "d:a1")
	filesAre(crashed(t, d, 0, 2), "a:a123", "b:b123", "c:c1")
	filesAre(crashed(t, d, 0, 2, 0, 1, 9, 9, -9, math.MinInt), "a:a123", "b:b123", "c:c12")
	ok(t, d.Remove("b"))
	filesAre(crashed(t, d, 2, 1, 2), "c:c12", "d:a123")
}

// A change does what it did to the file that it did it to, with the bytes that this file has now.
func TestChangesKnowTheirFiles(t *testing.T) {
	d := made(t, 100)
	ok(t, d.Create("a"), d.Append("a", []byte("1")), d.Sync("a"), d.SyncDir())
	ok(t, d.Create("t"), d.Append("t", []byte("22")), d.Sync("t"), d.Rename("t", "a"))
	ok(t, d.Create("t"), d.Append("t", []byte("333")), d.Sync("t"), d.Rename("t", "a"), d.Append("a", []byte("4")), d.Sync("a"))
	for c, want := range []map[string]string{{"a": "1"}, {"a": "1", "t": "22"}, {"a": "22"}, {"a": "22", "t": "3334"}, {"a": "3334"}} {
		x := crashed(t, d, c)
		if n := len(x.Names()); n != len(want) {
			t.Errorf("P17.8: %q: want %v", x.Names(), want)
		}
		for name, text := range want {
			readIs(t, x, name, text)
		}
	}
}

// All that there is behind a crash is safe, and those who are not there never come back: P17.8, P17.10.
func TestCrashRightBehindACrash(t *testing.T) {
	draw := drawn(3)
	d, p := made(t, 40), newPlain(40)
	for range 3000 {
		o := drawnDeed(draw)
		o.do(d)
		o.plainly(p)
		x := crashed(t, d, drawnChoices(draw)...)
		was := tells(x)
		for range 3 {
			if x = crashed(t, x, drawnChoices(draw)...); tells(x) != was {
				t.Fatalf("P17.10: %s became %s", was, tells(x))
			}
		}
	}
	same(t, d, p, nil)
}

// What was synced, of a name that was safe and is not changed since, is read behind any crash: P17.10.
func TestSyncedBytesStay(t *testing.T) {
	draw := drawn(10)
	for range 60 {
		d := made(t, 60)
		synced, safe := map[string]string{}, map[string]bool{}
		for range 60 {
			o := drawnDeed(draw)
			if o.what == "Crash" || o.do(d) != api.OK {
				continue
			}
			switch o.what {
			case "Create", "Remove":
				delete(safe, o.name)
				delete(synced, o.name)
			case "Rename":
				for _, name := range []string{o.name, o.to} {
					delete(safe, name)
					delete(synced, name)
				}
			case "Sync":
				b, _ := d.Clone().bytesOf(o.name)
				synced[o.name] = string(b)
			case "SyncDir":
				for _, name := range []string{"a", "b", "c", "d", "none"} {
					safe[name] = true
				}
			}
			x := crashed(t, d, drawnChoices(draw)...)
			for name, want := range synced {
				b, e := x.Read(name)
				if safe[name] && (e != api.OK || !strings.HasPrefix(string(b), want)) {
					t.Fatalf("P17.10: Read(%q): %q, %d: want %q first", name, b, e, want)
				}
			}
		}
	}
}

// bytesOf reads of a clone, stopped or not.
func (d *Disk) bytesOf(name string) ([]byte, api.Errno) {
	d.left = endless
	return d.Read(name)
}

// Drawn calls, held against the chapter said anew: all answers, all that is told, and what a crash leaves.
func TestDrawnCalls(t *testing.T) {
	draw := drawn(17)
	for range 300 {
		room := 1 + draw(40)
		d, p := made(t, room), newPlain(room)
		var done []deed
		for range 120 {
			o := drawnDeed(draw)
			done = append(done, o)
			if got, want := o.do(d), o.plainly(p); got != want {
				t.Fatalf("behind %v: %d: want %d", done, got, want)
			}
			same(t, d, p, done)
			end := deed{what: "Crash", choices: drawnChoices(draw)}
			x, q := d.Clone(), p.clone()
			same(t, x, q, done)
			end.do(x)
			end.plainly(q)
			same(t, x, q, append(done, end))
			if draw(30) == 0 {
				d, p, done = x, q, append(done, end)
			}
		}
	}
}

// All ways of up to five of eight calls, each with crashes behind it: by all choices of the changes, and by some of the bytes.
func TestAllShortWays(t *testing.T) {
	calls := []deed{{what: "Create", name: "a"}, {what: "Create", name: "b"}, {what: "Append", name: "a", bytes: "12"}, {what: "Sync", name: "a"},
		{what: "Rename", name: "a", to: "b"}, {what: "Rename", name: "b", to: "a"}, {what: "Remove", name: "a"}, {what: "SyncDir"}}
	var more func(d *Disk, p *plain, done []deed)
	more = func(d *Disk, p *plain, done []deed) {
		for c := range len(p.states) {
			for _, bytes := range [][]int{{0, 2}, {-3, 1}, {2, -2}} {
				end := deed{what: "Crash", choices: append([]int{c}, bytes...)}
				x, q := d.Clone(), p.clone()
				end.do(x)
				end.plainly(q)
				same(t, x, q, append(done, end))
			}
		}
		if len(done) == 5 {
			return
		}
		for _, o := range calls {
			x, q := d.Clone(), p.clone()
			way := append(slices.Clone(done), o)
			got, want := o.do(x), o.plainly(q)
			if got != want {
				t.Fatalf("behind %v: %d: want %d", way, got, want)
			}
			same(t, x, q, way)
			// What does not answer OK changes nothing, so there is no way on from there.
			if got == api.OK {
				more(x, q, way)
			}
		}
	}
	more(made(t, 7), newPlain(7), nil)
}

// Disks with very many changes of names, at the most files.
func TestManyChanges(t *testing.T) {
	draw := drawn(64)
	d, p := made(t, 1000), newPlain(1000)
	for range 3000 {
		a, b := fmt.Sprintf("f%d", draw(80)), fmt.Sprintf("f%d", draw(80))
		for _, o := range []deed{{what: "Create", name: a}, {what: "Append", name: a, bytes: "1"}, {what: "Create", name: b}, {what: []string{"Rename", "Remove", "Sync", "Create"}[draw(4)], name: a, to: b}} {
			if got, want := o.do(d), o.plainly(p); got != want {
				t.Fatalf("%v: %d: want %d", o, got, want)
			}
		}
	}
	same(t, d, p, nil)
	for range 50 {
		end := deed{what: "Crash", choices: []int{draw(100000)}}
		for range 64 {
			end.choices = append(end.choices, draw(99)-40)
		}
		x, q := d.Clone(), p.clone()
		end.do(x)
		end.plainly(q)
		same(t, x, q, []deed{end})
	}
}

// A clone is like the disk in all that may come, and neither knows of the other: P17.9, R2.
func TestClone(t *testing.T) {
	draw := drawn(9)
	for range 200 {
		d, p := made(t, 50), newPlain(50)
		for range draw(40) {
			o := drawnDeed(draw)
			o.do(d)
			o.plainly(p)
		}
		x, q := d.Clone(), p.clone()
		for range 40 {
			o := drawnDeed(draw)
			if draw(2) == 0 {
				o.do(d)
				o.plainly(p)
			} else {
				o.do(x)
				o.plainly(q)
			}
			same(t, d, p, nil)
			same(t, x, q, nil)
			end := deed{what: "Crash", choices: drawnChoices(draw)}
			y, r := x.Clone(), q.clone()
			end.do(y)
			end.plainly(r)
			same(t, y, r, nil)
			same(t, x, q, nil)
		}
	}
	d := made(t, 9)
	ok(t, d.Stop(1))
	x := d.Clone()
	ok(t, x.SyncDir())
	isDown(t, x)
	ok(t, d.Create("a"))
	isDown(t, d)
}

// Disks know nothing of one another: R2.
func TestDisksAreApart(t *testing.T) {
	d, x := made(t, 4), made(t, 4)
	ok(t, d.Create("a"), d.Append("a", []byte("1234")), d.Stop(0))
	namesAre(t, x)
	countsAre(t, x, 0, 0)
	ok(t, x.Create("a"), x.Append("a", []byte("5678")), x.Crash())
	isDown(t, d)
}

// What is handed in is not written into, nor its spare room, nor kept: R2.
func TestNothingIsWrittenOrKept(t *testing.T) {
	d := made(t, 100)
	b := []byte("123456")
	ok(t, d.Create("a"), d.SyncDir(), d.Append("a", b[:3]), d.Append("a", b[4:5]))
	if string(b) != "123456" {
		t.Errorf("R2: the bytes became %q", b)
	}
	clear(b)
	readIs(t, d, "a", "1235")
	choices := []int{0, -3, 7, 8}
	ok(t, d.Crash(choices[:2]...))
	if !slices.Equal(choices, []int{0, -3, 7, 8}) {
		t.Errorf("R2: the choices became %v", choices)
	}
	readIs(t, d, "a", "\x00\x00")
}

// What comes out is new memory: R2.
func TestAnswersAreNew(t *testing.T) {
	d := made(t, 100)
	ok(t, d.Create("a"), d.Append("a", []byte("123")), d.Append("a", []byte("4")))
	one, _ := d.Read("a")
	two, _ := d.Read("a")
	one = append(one, "5678"...)
	clear(one[:cap(one)])
	names := d.Names()
	clear(names)
	readIs(t, d, "a", "1234")
	namesAre(t, d, "a")
	ok(t, d.Append("a", []byte("x")), d.Crash(1, -6))
	readIs(t, d, "a", "\x00\x00\x00\x00\x00")
	if string(two) != "1234" {
		t.Errorf("R2: what was read became %q", two)
	}
}

// A file that no crash can bring back is not kept; one that may be is.
func TestNoMoreIsKept(t *testing.T) {
	d := made(t, 100)
	for range 50 {
		ok(t, d.Create("a"), d.Append("a", []byte("1")), d.Remove("a"), d.Create("b"), d.Create("c"), d.Rename("b", "c"), d.SyncDir())
		if len(d.files) != 1 || len(d.changes) != 0 {
			t.Fatalf("%d files, %d changes are kept", len(d.files), len(d.changes))
		}
		ok(t, d.Remove("c"), d.Create("d"), d.Crash(2))
		if len(d.files) != 1 || len(d.changes) != 0 {
			t.Fatalf("%d files, %d changes are kept behind a crash", len(d.files), len(d.changes))
		}
		ok(t, d.Remove("d"))
	}
}

// R3: a nil one answers ErrNil ahead of all other errors; so does a zero one, which no call gave.
func TestNil(t *testing.T) {
	for _, d := range []*Disk{nil, {}} {
		for _, name := range []string{"a", "", "A"} {
			got := answers(d.Create(name), d.Append(name, nil), d.Append(name, []byte("1")), d.Sync(name), d.Rename(name, name), d.Remove(name), d.SyncDir(), d.Stop(0), d.Stop(-1), d.Crash(), d.Crash(1, -1))
			for _, e := range got {
				if e != api.ErrNil {
					t.Fatalf("R3: %v: want all 3", got)
				}
			}
			readFails(t, d, name, api.ErrNil)
		}
		namesAre(t, d)
		countsAre(t, d, 0, 0)
		if d.Down() || d.Clone() != nil {
			t.Errorf("R3: %v, %v", d.Down(), d.Clone())
		}
	}
}
