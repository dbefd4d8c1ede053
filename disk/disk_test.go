package disk_test

import (
	"bytes"
	"math"
	"slices"
	"strings"
	"sync"
	"testing"

	"rick/api"
	"rick/disk"
)

// shows fails unless this is in the files of d (which is not down), and so many bytes of each are synced.
func shows(t *testing.T, what string, d *disk.Disk, zero, one string, syncedZero, syncedOne int) {
	t.Helper()
	a, errA := d.Read(api.Objects)
	b, errB := d.Read(api.Meta)
	if errA != api.OK || errB != api.OK || string(a) != zero || string(b) != one {
		t.Errorf("%s: %q (error %d) and %q (error %d); want %q and %q", what, a, errA, b, errB, zero, one)
	}
	if d.Synced(api.Objects) != syncedZero || d.Synced(api.Meta) != syncedOne {
		t.Errorf("%s: %d and %d synced; want %d and %d", what, d.Synced(api.Objects), d.Synced(api.Meta), syncedZero, syncedOne)
	}
}

// restarted fails unless a restart of d finds this, all of it synced, on a disk that is neither down nor armed.
func restarted(t *testing.T, what string, d *disk.Disk, zero, one string) {
	t.Helper()
	r := d.Restart()
	shows(t, what+", restarted", r, zero, one, len(zero), len(one))
	for range 20 {
		if e := r.Append(api.Objects, nil); e != api.OK || r.Down() {
			t.Fatalf("%s, restarted: error %d, down %v", what, e, r.Down())
		}
	}
	if again := r.Restart(); again.Free() != r.Free() {
		t.Errorf("%s, restarted twice: %d free; want %d", what, again.Free(), r.Free())
	}
}

// done fails unless all of these are OK.
func done(t *testing.T, what string, all ...api.Errno) {
	t.Helper()
	for i, e := range all {
		if e != api.OK {
			t.Errorf("%s: the step %d: error %d", what, i, e)
		}
	}
}

// wrongFiles are numbers of no file.
func wrongFiles() []int {
	return []int{math.MinInt, -257, -256, -1, api.Files, 3, 255, 256, 257, 1 << 16, 1 << 32, 1<<32 + 1, math.MaxInt}
}

func TestTheDocumentsExample(t *testing.T) {
	d := disk.New(10)
	done(t, "Example 1", d.Append(0, []byte("ab")))
	restarted(t, "Example 1: Append", d, "", "")
	done(t, "Example 1", d.Sync(0))
	restarted(t, "Example 1: Append, Sync", d, "ab", "")
}

func TestNewHoldsTheRoom(t *testing.T) {
	for _, c := range []struct{ room, want int }{
		{math.MinInt, 0}, {-1, 0}, {0, 0}, {1, 1}, {2, 2}, {api.MaxDisk - 1, api.MaxDisk - 1}, {api.MaxDisk, api.MaxDisk}, {api.MaxDisk + 1, api.MaxDisk}, {1 << 32, api.MaxDisk}, {math.MaxInt, api.MaxDisk},
	} {
		d := disk.New(c.room)
		shows(t, "P3.1: New", d, "", "", 0, 0)
		if d.Free() != c.want || d.Down() {
			t.Errorf("P3.1: New of %d: %d free, down %v; want %d free", c.room, d.Free(), d.Down(), c.want)
		}
		for range 20 {
			done(t, "P3.1: a new disk is not armed", d.Sync(0))
		}
		if r := d.Restart(); r.Free() != c.want {
			t.Errorf("P3.2: Restart of room %d: %d free", c.want, r.Free())
		}
		if f := d.Fork(); f.Free() != c.want {
			t.Errorf("P3.2: Fork of room %d: %d free", c.want, f.Free())
		}
		if e := d.Append(1, make([]byte, c.want+1)); e != api.ErrFull {
			t.Errorf("P3.1: Append of more than %d bytes: error %d", c.want, e)
		}
		if e := d.Append(1, make([]byte, c.want)); e != api.OK || d.Free() != 0 {
			t.Errorf("P3.1: Append of %d bytes: error %d, %d free", c.want, e, d.Free())
		}
	}
}

func TestAppendGoesBehindWhatIsThere(t *testing.T) {
	d := disk.New(100)
	done(t, "P3.1: Append", d.Append(0, []byte("ab")), d.Append(1, []byte("x")), d.Append(0, nil), d.Append(0, []byte{}), d.Append(0, []byte("\x00\xff\n")), d.Append(1, []byte("yz")))
	shows(t, "P3.1: Append", d, "ab\x00\xff\n", "xyz", 0, 0)
	if d.Free() != 92 {
		t.Errorf("P3.1: %d free; want 92", d.Free())
	}
	restarted(t, "P3.1: Append", d, "", "")
}

func TestTheRoomIsThatOfAllFiles(t *testing.T) {
	d := disk.New(6)
	done(t, "P3.1: Append", d.Append(0, []byte("abc")), d.Append(1, []byte("xy")))
	for _, file := range []int{0, 1} {
		if e := d.Append(file, []byte("12")); e != api.ErrFull || d.Free() != 1 {
			t.Errorf("P3.1: Append of more than there is room for: error %d, %d free", e, d.Free())
		}
	}
	shows(t, "R4: what is refused changes nothing", d, "abc", "xy", 0, 0)
	done(t, "P3.1: Append", d.Append(0, []byte("d")))
	if e := d.Append(1, []byte("z")); e != api.ErrFull || d.Free() != 0 {
		t.Errorf("P3.1: Append to a full disk: error %d, %d free", e, d.Free())
	}
	done(t, "P3.1: nothing fits always", d.Append(0, nil), d.Append(1, []byte{}))
	done(t, "P3.1: Cut", d.Cut(0, 2))
	if d.Free() != 2 {
		t.Errorf("P3.1: %d free behind a Cut; want 2", d.Free())
	}
	done(t, "P3.1: Append", d.Append(1, []byte("zz")))
	shows(t, "P3.1: Append behind a Cut", d, "ab", "xyzz", 0, 0)
}

func TestSyncIsOfOneFile(t *testing.T) {
	d := disk.New(100)
	done(t, "P3.1: Sync", d.Append(0, []byte("abc")), d.Append(1, []byte("xy")), d.Sync(1))
	shows(t, "P3.1: Sync", d, "abc", "xy", 0, 2)
	restarted(t, "P3.1: Sync", d, "", "xy")
	done(t, "P3.1: Sync", d.Append(1, []byte("z")))
	shows(t, "P3.1: what is appended behind a Sync is loose", d, "abc", "xyz", 0, 2)
	restarted(t, "P3.1: what is appended behind a Sync is loose", d, "", "xy")
	done(t, "P3.1: Sync", d.Sync(0), d.Sync(0), d.Sync(1))
	shows(t, "P3.1: Sync", d, "abc", "xyz", 3, 3)
	restarted(t, "P3.1: Sync", d, "abc", "xyz")
}

func TestCutIsAtOnce(t *testing.T) {
	for n := range 7 {
		d := disk.New(100)
		done(t, "P3.1: Cut", d.Append(0, []byte("abcd")), d.Sync(0), d.Append(0, []byte("ef")), d.Append(1, []byte("x")), d.Sync(1), d.Cut(0, n))
		synced := min(n, 4)
		shows(t, "P3.1: Cut", d, "abcdef"[:n], "x", synced, 1)
		restarted(t, "P3.1: Cut", d, "abcd"[:synced], "x")
		done(t, "P3.1: Cut", d.Append(0, []byte("QQ")))
		shows(t, "P3.1: Append behind a Cut", d, "abcdef"[:n]+"QQ", "x", synced, 1)
		restarted(t, "P3.1: Append behind a Cut is loose", d, "abcd"[:synced], "x")
		done(t, "P3.1: Cut", d.Sync(0))
		restarted(t, "P3.1: Sync behind a Cut", d, "abcdef"[:n]+"QQ", "x")
	}
}

func TestCutOfNoSuchLengthIsErrArg(t *testing.T) {
	d := disk.New(100)
	done(t, "P3.1: Cut", d.Append(0, []byte("abcd")), d.Append(1, []byte("xyz")), d.Sync(1))
	for _, c := range []struct{ file, n int }{{0, 5}, {0, -1}, {0, math.MaxInt}, {0, math.MinInt}, {0, 1 << 32}, {1, 4}, {1, -1}, {1, 100}} {
		if e := d.Cut(c.file, c.n); e != api.ErrArg {
			t.Errorf("P3.1: Cut of %d to %d: error %d; want %d", c.file, c.n, e, api.ErrArg)
		}
	}
	shows(t, "R4: what is refused changes nothing", d, "abcd", "xyz", 0, 3)
	empty := disk.New(100)
	if empty.Cut(0, 0) != api.OK || empty.Cut(0, 1) != api.ErrArg {
		t.Error("P3.1: Cut of a file with nothing in it")
	}
}

func TestNoSuchFileIsErrArg(t *testing.T) {
	d := disk.New(5)
	done(t, "P3.1", d.Append(0, []byte("ab")), d.Append(1, []byte("x")), d.Sync(0), d.Sync(1))
	for _, file := range wrongFiles() {
		b, e := d.Read(file)
		if e != api.ErrArg || len(b) > 0 {
			t.Errorf("P3.1: Read of the file %d: %q, error %d", file, b, e)
		}
		if d.Append(file, []byte("q")) != api.ErrArg || d.Append(file, nil) != api.ErrArg || d.Sync(file) != api.ErrArg || d.Cut(file, 0) != api.ErrArg || d.Synced(file) != 0 {
			t.Errorf("P3.1: the file %d", file)
		}
		if e := d.Append(file, []byte("too long")); e != api.ErrArg {
			t.Errorf("R5: Append of too much to the file %d: error %d; want %d", file, e, api.ErrArg)
		}
	}
	shows(t, "R4: what is refused changes nothing", d, "ab", "x", 2, 1)
}

func TestADiskThatIsDownRefusesAll(t *testing.T) {
	d := disk.New(5)
	done(t, "P3.2", d.Append(0, []byte("ab")), d.Sync(0), d.Append(0, []byte("c")))
	d.Arm(0, []int{1})
	if !d.Down() {
		t.Error("P3.2: Arm of no steps")
	}
	for _, file := range append(wrongFiles(), 0, 1) {
		b, e := d.Read(file)
		if e != api.ErrCrash || len(b) > 0 {
			t.Errorf("P3.1: Read of the file %d: %q, error %d", file, b, e)
		}
		for _, e := range []api.Errno{d.Append(file, nil), d.Append(file, []byte("q")), d.Append(file, []byte("too long")), d.Sync(file), d.Cut(file, 0), d.Cut(file, -1), d.Cut(file, 99)} {
			if e != api.ErrCrash {
				t.Errorf("P3.1, R5: the file %d: error %d; want %d", file, e, api.ErrCrash)
			}
		}
	}
	if d.Free() != 2 || d.Synced(0) != 2 || d.Synced(1) != 0 || d.Synced(2) != 0 || !d.Down() {
		t.Errorf("P3.1: a disk that is down: %d free, %d synced, down %v", d.Free(), d.Synced(0), d.Down())
	}
	restarted(t, "P3.2: a disk that is down", d, "abc", "")
	restarted(t, "P3.2: a disk that is down, once more", d, "abc", "")
}

func TestANilDisk(t *testing.T) {
	var d *disk.Disk
	d.Arm(0, []int{1})
	d.Arm(1, nil)
	for _, file := range append(wrongFiles(), 0, 1) {
		b, e := d.Read(file)
		if e != api.ErrNil || len(b) > 0 || d.Append(file, []byte("a")) != api.ErrNil || d.Sync(file) != api.ErrNil || d.Cut(file, -1) != api.ErrNil || d.Synced(file) != 0 {
			t.Errorf("P3.1: the file %d of nil", file)
		}
	}
	if d.Down() || d.Free() != 0 || d.Restart() != nil || d.Fork() != nil {
		t.Error("P3.2: nil")
	}
}

func TestADiskThatNewDidNotMake(t *testing.T) {
	for _, d := range []*disk.Disk{{}, (&disk.Disk{}).Restart(), (&disk.Disk{}).Fork()} {
		shows(t, "R1: a zero disk", d, "", "", 0, 0)
		if d.Free() != 0 || d.Append(0, []byte("a")) != api.ErrFull || d.Append(0, nil) != api.OK || d.Sync(1) != api.OK || d.Cut(1, 0) != api.OK || d.Cut(1, 1) != api.ErrArg || d.Down() {
			t.Error("R1: a zero disk has no room")
		}
		d.Arm(1, nil)
		if d.Sync(0) != api.OK || !d.Down() {
			t.Error("R1: a zero disk crashes")
		}
	}
}

// steps are ways to make a step on a disk that has two bytes in each file.
func steps() map[string]func(d *disk.Disk) api.Errno {
	return map[string]func(d *disk.Disk) api.Errno{
		"Append":            func(d *disk.Disk) api.Errno { return d.Append(0, []byte("c")) },
		"Append of nothing": func(d *disk.Disk) api.Errno { return d.Append(1, nil) },
		"Sync":              func(d *disk.Disk) api.Errno { return d.Sync(0) },
		"Sync of nothing":   func(d *disk.Disk) api.Errno { return d.Sync(1) },
		"Cut":               func(d *disk.Disk) api.Errno { return d.Cut(0, 1) },
		"Cut of nothing":    func(d *disk.Disk) api.Errno { return d.Cut(1, 2) },
	}
}

// noSteps does all that is no step.
func noSteps(d *disk.Disk) {
	d.Append(9, nil)
	d.Append(0, make([]byte, api.MaxDisk+1))
	d.Sync(-1)
	d.Cut(0, -1)
	d.Cut(0, 99)
	d.Cut(5, 0)
	d.Read(0)
	d.Read(7)
	d.Down()
	d.Free()
	d.Synced(0)
	d.Restart()
	d.Fork()
}

func TestArmCountsWhatIsDone(t *testing.T) {
	for name, step := range steps() {
		for n := 1; n < 6; n++ {
			d := disk.New(100)
			done(t, "P3.2", d.Append(0, []byte("ab")), d.Append(1, []byte("xy")), d.Sync(1))
			d.Arm(n, nil)
			for i := range n {
				noSteps(d)
				if d.Down() {
					t.Fatalf("P3.2: Arm of %d, %s: down behind %d steps", n, name, i)
				}
				if e := step(d); e != api.OK {
					t.Errorf("P3.2: Arm of %d: %s %d: error %d; the last step, too, is done", n, name, i, e)
				}
			}
			if !d.Down() || step(d) != api.ErrCrash {
				t.Errorf("P3.2: Arm of %d, %s: down %v behind so many steps", n, name, d.Down())
			}
		}
	}
}

func TestTheLastStepIsDone(t *testing.T) {
	for _, c := range []struct {
		name      string
		step      func(d *disk.Disk) api.Errno
		keep      []int
		zero, one string
	}{
		{"Append", func(d *disk.Disk) api.Errno { return d.Append(0, []byte("ef")) }, []int{4}, "abcdef", "xy"},
		{"Sync", func(d *disk.Disk) api.Errno { return d.Sync(0) }, nil, "abcd", "xy"},
		{"Cut", func(d *disk.Disk) api.Errno { return d.Cut(0, 1) }, []int{9}, "a", "xy"},
		{"Cut of what is loose", func(d *disk.Disk) api.Errno { return d.Cut(0, 3) }, []int{9}, "abc", "xy"},
		{"Cut to nothing", func(d *disk.Disk) api.Errno { return d.Cut(1, 0) }, nil, "ab", ""},
	} {
		d := disk.New(100)
		done(t, "P3.2", d.Append(0, []byte("ab")), d.Sync(0), d.Append(0, []byte("cd")), d.Append(1, []byte("xy")), d.Sync(1))
		d.Arm(1, c.keep)
		done(t, "P3.2: "+c.name, c.step(d))
		restarted(t, "P3.2: behind a last "+c.name, d, c.zero, c.one)
	}
}

func TestArmOfNoStepsIsDownAtOnce(t *testing.T) {
	for _, n := range []int{0, -1, -9, math.MinInt} {
		d := disk.New(100)
		done(t, "P3.2", d.Append(0, []byte("abc")), d.Append(1, []byte("xyz")), d.Sync(1))
		d.Arm(n, []int{2})
		if !d.Down() || d.Append(0, nil) != api.ErrCrash {
			t.Errorf("P3.2: Arm of %d: down %v", n, d.Down())
		}
		restarted(t, "P3.2: Arm of no steps", d, "ab", "xyz")
	}
}

func TestArmOfMoreStepsThanAreDone(t *testing.T) {
	for _, n := range []int{50, 1 << 31, 1 << 32, math.MaxInt} {
		d := disk.New(100)
		d.Arm(n, []int{1, 1})
		for range 49 {
			done(t, "P3.2: Arm", d.Append(0, []byte("a")))
		}
		if d.Down() {
			t.Errorf("P3.2: Arm of %d: down behind 49 steps", n)
		}
		restarted(t, "P3.2: a restart of what is armed, and not down", d, "a", "")
	}
}

func TestASecondArmTakesThePlaceOfTheFirst(t *testing.T) {
	for _, c := range []struct {
		name          string
		first, second int
		firstKeep     []int
		secondKeep    []int
		zero, one     string
	}{
		{"later", 1, 3, []int{1, 2}, []int{2, 1}, "ab", "x"},
		{"sooner", 9, 2, []int{1, 2}, []int{2, 1}, "ab", "x"},
		{"alike", 2, 2, []int{1, 2}, []int{0, 3}, "", "xyz"},
		{"with less to keep", 2, 2, []int{3, 3}, []int{1}, "a", ""},
		{"with nothing to keep", 2, 2, []int{3, 3}, nil, "", ""},
	} {
		d := disk.New(100)
		done(t, "P3.2", d.Append(0, []byte("abc")), d.Append(1, []byte("xyz")))
		d.Arm(c.first, c.firstKeep)
		d.Arm(c.second, c.secondKeep)
		for i := range c.second {
			if d.Down() {
				t.Fatalf("P3.2: a second Arm, %s: down behind %d steps", c.name, i)
			}
			done(t, "P3.2: a second Arm", d.Append(0, nil))
		}
		if !d.Down() {
			t.Errorf("P3.2: a second Arm, %s: not down", c.name)
		}
		restarted(t, "P3.2: a second Arm, "+c.name, d, c.zero, c.one)
	}
}

func TestASecondArmCountsFromItselfOn(t *testing.T) {
	d := disk.New(100)
	d.Arm(3, nil)
	done(t, "P3.2", d.Sync(0), d.Sync(0))
	d.Arm(3, nil)
	done(t, "P3.2: behind a second Arm", d.Sync(0), d.Sync(0))
	if d.Down() || d.Sync(0) != api.OK || !d.Down() {
		t.Error("P3.2: a second Arm counts from itself on")
	}
	e := disk.New(100)
	e.Arm(5, nil)
	done(t, "P3.2", e.Sync(0))
	e.Arm(0, nil)
	if !e.Down() {
		t.Error("P3.2: a second Arm, of no steps")
	}
}

func TestArmOfADiskThatIsDownIsNothing(t *testing.T) {
	d := disk.New(100)
	done(t, "P3.2", d.Append(0, []byte("abc")), d.Append(1, []byte("xyz")))
	d.Arm(1, []int{1, 2})
	done(t, "P3.2", d.Sync(1))
	for _, n := range []int{-1, 0, 1, 99} {
		d.Arm(n, []int{3, 3})
		d.Arm(n, nil)
		if !d.Down() || d.Sync(0) != api.ErrCrash {
			t.Errorf("P3.2: Arm of %d of a disk that is down: down %v", n, d.Down())
		}
	}
	restarted(t, "P3.2: Arm of a disk that is down", d, "a", "xyz")
}

func TestRestartKeepsTheFirstOfWhatIsLoose(t *testing.T) {
	for _, c := range []struct {
		keep      []int
		zero, one string
	}{
		{nil, "ab", "x"},
		{[]int{}, "ab", "x"},
		{[]int{0, 0}, "ab", "x"},
		{[]int{1}, "abc", "x"},
		{[]int{2, 1}, "abcd", "xy"},
		{[]int{0, 2}, "ab", "xyz"},
		{[]int{3, 3}, "abcde", "xyzw"},
		{[]int{4, 5}, "abcde", "xyzw"},
		{[]int{3, 3, 3, 3}, "abcde", "xyzw"},
		{[]int{-1, 2}, "ab", "xyz"},
		{[]int{math.MinInt, math.MaxInt}, "ab", "xyzw"},
		{[]int{math.MaxInt, math.MinInt}, "abcde", "x"},
		{[]int{1 << 32, 1<<32 + 1}, "abcde", "xyzw"},
	} {
		d := disk.New(20)
		done(t, "P3.2", d.Append(0, []byte("ab")), d.Append(1, []byte("x")), d.Sync(0), d.Sync(1), d.Append(0, []byte("cde")), d.Append(1, []byte("yzw")))
		d.Arm(7, c.keep)
		restarted(t, "P3.2: armed", d, c.zero, c.one)
		d.Arm(0, c.keep)
		restarted(t, "P3.2: down", d, c.zero, c.one)
		if r := d.Restart(); r.Free() != 20-len(c.zero)-len(c.one) {
			t.Errorf("P3.2: Restart, %v to keep: %d free", c.keep, r.Free())
		}
	}
}

func TestWhatIsKeptIsCountedAtTheCrash(t *testing.T) {
	d := disk.New(100)
	done(t, "P3.2", d.Append(0, []byte("abcdef")), d.Append(1, []byte("x")))
	d.Arm(4, []int{2, 2})
	done(t, "P3.2", d.Sync(0), d.Append(1, []byte("yz")), d.Append(0, []byte("ghi")), d.Cut(0, 7))
	restarted(t, "P3.2: of what is loose then", d, "abcdefg", "xy")
}

func TestARestartIsNotArmed(t *testing.T) {
	d := disk.New(100)
	done(t, "P3.2", d.Append(0, []byte("abc")))
	d.Arm(3, []int{1, 1})
	r := d.Restart()
	done(t, "P3.2: Restart", r.Append(0, []byte("QQ")), r.Append(1, []byte("RR")))
	restarted(t, "P3.2: a restart is not armed", r, "a", "")
	if d.Down() {
		t.Error("P3.2: Restart is no step")
	}
	r.Arm(1, []int{1, 2})
	done(t, "P3.2: a restart can be armed", r.Sync(1))
	if !r.Down() || d.Down() {
		t.Error("P3.2: a restart is another disk")
	}
	restarted(t, "P3.2: a restart that crashed", r, "aQ", "RR")
}

func TestRestartLeavesTheDiskAsItWas(t *testing.T) {
	d := disk.New(100)
	done(t, "P3.2", d.Append(0, []byte("abc")), d.Sync(0), d.Append(0, []byte("de")), d.Append(1, []byte("x")))
	r := d.Restart()
	done(t, "P3.2", r.Append(0, []byte("QQQQ")), r.Sync(0), r.Append(1, []byte("Q")))
	shows(t, "P3.2: behind a Restart", d, "abcde", "x", 3, 0)
	done(t, "P3.2", r.Cut(0, 0), d.Append(0, []byte("f")), d.Sync(0), d.Cut(1, 0))
	shows(t, "P3.2: the restarted one", r, "", "Q", 0, 0)
	shows(t, "P3.2: behind a Restart", d, "abcdef", "", 6, 0)
}

func TestForkIsAlike(t *testing.T) {
	d := disk.New(20)
	done(t, "P3.2", d.Append(0, []byte("abc")), d.Sync(0), d.Append(0, []byte("de")), d.Append(1, []byte("xyz")))
	d.Arm(3, []int{1, 2})
	done(t, "P3.2", d.Append(0, nil))
	f := d.Fork()
	shows(t, "P3.2: Fork", f, "abcde", "xyz", 3, 0)
	restarted(t, "P3.2: Fork", f, "abcd", "xy")
	if f.Free() != 12 || f.Down() {
		t.Errorf("P3.2: Fork: %d free, down %v", f.Free(), f.Down())
	}
	done(t, "P3.2: Fork", f.Append(0, []byte("QQ")))
	if f.Down() || f.Sync(1) != api.OK || !f.Down() {
		t.Error("P3.2: a fork crashes when the disk would")
	}
	if d.Down() || d.Free() != 12 {
		t.Errorf("P3.2: a fork is another disk: down %v, %d free", d.Down(), d.Free())
	}
	shows(t, "P3.2: a fork is another disk", d, "abcde", "xyz", 3, 0)
	g := f.Fork()
	if !g.Down() || g.Sync(0) != api.ErrCrash || g.Free() != 10 {
		t.Errorf("P3.2: a fork of a disk that is down: down %v, %d free", g.Down(), g.Free())
	}
	restarted(t, "P3.2: a fork of a disk that is down", g, "abcd", "xyz")
}

func TestNeitherOfAForkChangesTheOther(t *testing.T) {
	// A Cut leaves room behind what is there: both append into it.
	d := disk.New(100)
	done(t, "P3.2", d.Append(0, []byte("abcdefgh")), d.Append(1, []byte("x")), d.Cut(0, 2))
	f := d.Fork()
	done(t, "P3.2", d.Append(0, []byte("123")), f.Append(0, []byte("QQQQ")), d.Append(1, []byte("y")), f.Append(1, []byte("Q")))
	shows(t, "P3.2: behind a Fork", d, "ab123", "xy", 0, 0)
	shows(t, "P3.2: the fork", f, "abQQQQ", "xQ", 0, 0)
	done(t, "P3.2", f.Sync(0), d.Sync(1))
	f.Arm(0, nil)
	shows(t, "P3.2: behind a Fork", d, "ab123", "xy", 0, 2)
	restarted(t, "P3.2: the fork", f, "abQQQQ", "")
}

func TestWhatIsSyncedIsThereBehindACrash(t *testing.T) {
	for _, keep := range [][]int{nil, {-5, -5}, {1, 0}, {0, 1}, {99, 99}} {
		for n := range 4 {
			d := disk.New(100)
			done(t, "What follows", d.Append(0, []byte("abc")), d.Append(1, []byte("xyz")), d.Sync(0), d.Sync(1))
			d.Arm(n, keep)
			d.Append(0, []byte("def"))
			d.Append(1, []byte("w"))
			d.Sync(0)
			r := d.Restart()
			a, _ := r.Read(0)
			b, _ := r.Read(1)
			if !bytes.HasPrefix(a, []byte("abc")) || !bytes.HasPrefix(b, []byte("xyz")) || n == 3 && string(a) != "abcdef" {
				t.Errorf("What follows: %d steps, %v to keep: %q, %q", n, keep, a, b)
			}
		}
	}
}

func TestWhatIsHandedInIsNeitherChangedNorKept(t *testing.T) {
	d := disk.New(100)
	room := []byte("abcdefgh")
	done(t, "R3", d.Append(0, room[:3]), d.Append(0, []byte("123")), d.Append(1, room[:2]), d.Append(1, room[2:4]))
	if string(room) != "abcdefgh" {
		t.Errorf("R3: Append changes what is handed in, or the room behind it: %q", room)
	}
	clear(room)
	shows(t, "R3: what is handed in is not kept", d, "abc123", "abcd", 0, 0)
	keep := []int{1, 2, 3, 4}
	d.Arm(2, keep[:1])
	keep[0], keep[1] = 6, 6
	done(t, "R3", d.Append(1, nil), d.Append(1, nil))
	keep[0] = 5
	restarted(t, "R3: what is to keep is not kept", d, "a", "")
	if !slices.Equal(keep, []int{5, 6, 3, 4}) {
		t.Errorf("R3: Arm changes what is handed in: %v", keep)
	}
}

func TestWhatIsHandedOutIsNew(t *testing.T) {
	d := disk.New(100)
	done(t, "R3", d.Append(0, []byte("abcdef")), d.Sync(0), d.Cut(0, 3))
	early, _ := d.Read(0)
	same, _ := d.Read(0)
	clear(early)
	_ = append(early, "QQQ"...)
	if string(same) != "abc" {
		t.Errorf("R3: two Reads share memory: %q", same)
	}
	shows(t, "R3: Read, behind one that was written into", d, "abc", "", 3, 0)
	done(t, "R3", d.Append(0, []byte("123")))
	if string(early) != "\x00\x00\x00" || string(same) != "abc" {
		t.Errorf("R3: what was handed out changes by what is appended later: %q, %q", early, same)
	}
	restarted(t, "R3: Read, behind one that was written into", d, "abc", "")
}

func TestDisksAtOnceHangOnNoOther(t *testing.T) {
	got := make([]string, 16)
	var all sync.WaitGroup
	for i := range got {
		all.Go(func() {
			d := disk.New(1_000)
			for range 200 {
				d.Append(i%2, []byte{byte(i)})
				d.Sync(i % 2)
			}
			b, _ := d.Restart().Read(i % 2)
			got[i] = string(b)
		})
	}
	all.Wait()
	for i, s := range got {
		if s != strings.Repeat(string([]byte{byte(i)}), 200) {
			t.Errorf("R2: the disk %d, beside others: %q", i, s)
		}
	}
}
