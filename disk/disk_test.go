package disk_test

import (
	"bytes"
	"math"
	"math/rand"
	"slices"
	"strings"
	"testing"

	"octavo/api"
	"octavo/disk"
)

const (
	least    = math.MinInt
	greatest = math.MaxInt
)

func made(t *testing.T, room int) *disk.Disk {
	t.Helper()
	d, e := disk.New(room)
	if e != api.OK || d == nil {
		t.Fatalf("New(%d): %d", room, e)
	}
	return d
}

func want(t *testing.T, call string, got, e api.Errno) {
	t.Helper()
	if got != e {
		t.Errorf("%s: %d, want %d", call, got, e)
	}
}

// ok ends the test where a call that has to be made for what follows is refused.
func ok(t *testing.T, e api.Errno) {
	t.Helper()
	if e != api.OK {
		t.Fatalf("refused: %d", e)
	}
}

func wantFile(t *testing.T, d *disk.Disk, name string, b []byte) {
	t.Helper()
	got, e := d.Read(name, 0, len(b))
	if d.Size(name) != len(b) || e != api.OK || !bytes.Equal(got, b) {
		t.Errorf("%s has %d bytes, %v %d, want %d, %v", name, d.Size(name), got, e, len(b), b)
	}
}

func wantGone(t *testing.T, d *disk.Disk, name string) {
	t.Helper()
	_, e := d.Read(name, 0, 0)
	if d.Size(name) != -1 || e != api.ErrNone || slices.Contains(d.Names(), name) {
		t.Errorf("%s is there, of %d bytes, %d", name, d.Size(name), e)
	}
}

func wantRead(t *testing.T, d *disk.Disk, name string, at, n int, b []byte, e api.Errno) {
	t.Helper()
	got, gotE := d.Read(name, at, n)
	if gotE != e || !bytes.Equal(got, b) || (e != api.OK && len(got) > 0) {
		t.Errorf("Read(%q, %d, %d): %v %d, want %v %d", name, at, n, got, gotE, b, e)
	}
}

func wantState(t *testing.T, d *disk.Disk, free, changes int, down bool, names ...string) {
	t.Helper()
	if d.Free() != free || d.Changes() != changes || d.Down() != down || !slices.Equal(d.Names(), names) {
		t.Errorf("free %d, changes %d, down %v, names %q; want %d, %d, %v, %q", d.Free(), d.Changes(), d.Down(), d.Names(), free, changes, down, names)
	}
}

// of answers n bytes c.
func of(c byte, n int) []byte { return bytes.Repeat([]byte{c}, n) }

// row joins bytes.
func row(parts ...[]byte) []byte { return bytes.Join(parts, nil) }

// dead answers a disk whose power is off, with a file "a" of 3 bytes that are safe.
func dead(t *testing.T, room int) *disk.Disk {
	d := made(t, room)
	ok(t, d.Load("a", []byte("abc")))
	ok(t, d.Arm(0))
	want(t, "Sync that ends the power", d.Sync("a"), api.ErrDown)
	return d
}

// letters answers a name by its number: a, b, ..
func letters(i int) string { return string(rune('a' + i)) }

// filled answers a disk with as many files as may be, a to p, a byte each.
func filled(t *testing.T, room int) *disk.Disk {
	d := made(t, room)
	for i := range api.MaxFiles {
		ok(t, d.Write(letters(i), 0, []byte{1}))
	}
	return d
}

// P4.1: which rooms may be.
func TestNew(t *testing.T) {
	for _, room := range []int{0, 1, 64, 1<<40 - 1, 1 << 40} {
		d := made(t, room)
		wantState(t, d, room, 0, false)
		wantGone(t, d, "a")
	}
	for _, room := range []int{-1, 1<<40 + 1, least, greatest} {
		if d, e := disk.New(room); d != nil || e != api.ErrArg {
			t.Errorf("New(%d): %v %d", room, d, e)
		}
	}
}

// P4.1: a new disk isn't armed.
func TestNewIsNotArmed(t *testing.T) {
	d := made(t, 100)
	for i := range 1000 {
		ok(t, d.Write("a", 0, []byte{byte(i)}))
	}
	wantState(t, d, 99, 1000, false, "a")
}

// P4.1, R1: a nil disk.
func TestNil(t *testing.T) {
	var d *disk.Disk
	for _, name := range []string{"a", "", "A"} {
		want(t, "Load", d.Load(name, nil), api.ErrArg)
		want(t, "Write", d.Write(name, 0, []byte{1}), api.ErrArg)
		want(t, "Write of nothing", d.Write(name, -1, nil), api.ErrArg)
		want(t, "Cut", d.Cut(name, 0), api.ErrArg)
		want(t, "Sync", d.Sync(name), api.ErrArg)
		wantRead(t, d, name, 0, 0, nil, api.ErrArg)
		if n := d.Size(name); n != -1 {
			t.Errorf("Size: %d", n)
		}
	}
	want(t, "Arm", d.Arm(0), api.ErrArg)
	want(t, "Arm", d.Arm(-1), api.ErrArg)
	d.Crash(nil)
	d.Crash([]int{1})
	wantState(t, d, 0, 0, false)
}

// R1: a disk that New didn't make is one without room.
func TestZeroDisk(t *testing.T) {
	d := &disk.Disk{}
	d.Crash([]int{1})
	want(t, "Write", d.Write("a", 0, []byte{1}), api.ErrNoSpace)
	want(t, "Load", d.Load("a", nil), api.OK)
	want(t, "Sync", d.Sync("a"), api.OK)
	wantState(t, d, 0, 1, false, "a")
}

// P4.2, Words: which names there are.
func TestNames(t *testing.T) {
	good := []string{"a", "z", "m", "az", "tail", "abcdefghijklmnop", "qrstuvwxyz", strings.Repeat("z", 16)}
	for _, name := range good {
		d := made(t, 10)
		want(t, "Load", d.Load(name, []byte{1}), api.OK)
		want(t, "Write", d.Write(name, 1, []byte{2}), api.OK)
		want(t, "Cut", d.Cut(name, 2), api.OK)
		want(t, "Sync", d.Sync(name), api.OK)
		wantFile(t, d, name, []byte{1, 2})
	}
	bad := []string{"", strings.Repeat("a", 17), strings.Repeat("a", 1000), "A", "Z", "a1", "1", "`", "{", "a ", " a", "a.b", "a/b", "ä", "a\x00", "\x00", "\xff", "aB", "ab\n", "_", "@", "["}
	for _, name := range bad {
		d := made(t, 10)
		want(t, "Load", d.Load(name, []byte{1}), api.ErrArg)
		want(t, "Write", d.Write(name, 0, []byte{2}), api.ErrArg)
		want(t, "Write of nothing", d.Write(name, 0, nil), api.ErrArg)
		want(t, "Cut", d.Cut(name, 0), api.ErrArg)
		want(t, "Sync", d.Sync(name), api.ErrArg)
		wantRead(t, d, name, 0, 0, nil, api.ErrArg)
		if n := d.Size(name); n != -1 {
			t.Errorf("Size(%q): %d", name, n)
		}
		wantState(t, d, 10, 0, false)
	}
}

// P4.2, R2: where two errors hold, the first one is answered; P4.4: an error is no change, and has no power go.
func TestOrder(t *testing.T) {
	off := dead(t, 3)
	want(t, "bad name ahead of no power: Write", off.Write("", -1, []byte{1}), api.ErrArg)
	want(t, "bad name ahead of no power: Cut", off.Cut("A", -1), api.ErrArg)
	want(t, "bad name ahead of no power: Sync", off.Sync("A"), api.ErrArg)
	wantRead(t, off, "A", -1, -1, nil, api.ErrArg)
	want(t, "no power ahead of no file: Cut", off.Cut("b", -1), api.ErrDown)
	want(t, "no power ahead of no file: Sync", off.Sync("b"), api.ErrDown)
	wantRead(t, off, "b", -1, -1, nil, api.ErrDown)
	want(t, "no power ahead of a bad place", off.Write("a", -1, []byte{1}), api.ErrDown)
	want(t, "no power ahead of no room", off.Write("a", 3, []byte{1}), api.ErrDown)
	want(t, "no power, and nothing to write", off.Write("a", 0, nil), api.ErrDown)
	want(t, "no power, all well", off.Write("a", 0, []byte{1}), api.ErrDown)
	want(t, "no power, all well", off.Cut("a", 3), api.ErrDown)
	wantRead(t, off, "a", 0, 3, nil, api.ErrDown)

	d := filled(t, api.MaxFiles)
	ok(t, d.Arm(0))
	want(t, "bad name ahead of too many files: Write", d.Write("Q", 0, []byte{1}), api.ErrArg)
	want(t, "bad name ahead of too many files: Load", d.Load("Q", []byte{1}), api.ErrArg)
	want(t, "no file ahead of a bad place: Cut", d.Cut("q", -1), api.ErrNone)
	want(t, "no file ahead of the power's end: Sync", d.Sync("q"), api.ErrNone)
	wantRead(t, d, "q", -1, -1, nil, api.ErrNone)
	want(t, "bad place ahead of too many files", d.Write("q", 1, []byte{1}), api.ErrRange)
	want(t, "bad place ahead of too many files, nothing to write", d.Write("q", 1, nil), api.ErrRange)
	want(t, "bad place ahead of no room", d.Write("a", 2, []byte{1}), api.ErrRange)
	want(t, "bad place ahead of no room", d.Write("a", -1, of(1, 9)), api.ErrRange)
	want(t, "bad place: Cut", d.Cut("a", 2), api.ErrRange)
	want(t, "too many files ahead of no room: Write", d.Write("q", 0, []byte{1}), api.ErrMany)
	want(t, "too many files ahead of no room: Load", d.Load("q", []byte{1}), api.ErrMany)
	want(t, "too many files: Load", d.Load("q", nil), api.ErrMany)
	want(t, "no room ahead of the power's end", d.Write("a", 1, []byte{1}), api.ErrNoSpace)
	want(t, "no room: Load", d.Load("a", []byte{1, 2}), api.ErrNoSpace)
	want(t, "nothing to write is no file more", d.Write("q", 0, nil), api.OK)
	wantState(t, d, 0, 16, false, "a", "b", "c", "d", "e", "f", "g", "h", "i", "j", "k", "l", "m", "n", "o", "p")
	for i := range api.MaxFiles {
		wantFile(t, d, letters(i), []byte{1})
	}
	want(t, "the power's end, last of all", d.Write("a", 0, []byte{1}), api.ErrDown)
}

// P4.2: of Load and Arm it doesn't matter whether the power is on; all else of them is asked.
func TestLoadAndArmWithoutPower(t *testing.T) {
	d := dead(t, 10)
	want(t, "Arm", d.Arm(5), api.OK)
	want(t, "Arm", d.Arm(-1), api.ErrArg)
	want(t, "Load of a bad name", d.Load("", nil), api.ErrArg)
	want(t, "Load beyond the room", d.Load("a", of(1, 11)), api.ErrNoSpace)
	want(t, "Load", d.Load("a", []byte("xy")), api.OK)
	want(t, "Load of a new one", d.Load("b", []byte("z")), api.OK)
	want(t, "Write", d.Write("a", 0, []byte{1}), api.ErrDown)
	wantState(t, d, 7, 0, true)
	d.Crash(nil)
	wantState(t, d, 7, 0, false, "a", "b")
	wantFile(t, d, "a", []byte("xy"))
	wantFile(t, d, "b", []byte("z"))
	for range 6 {
		want(t, "Sync, no more armed", d.Sync("a"), api.OK)
	}
	full := filled(t, 100)
	ok(t, full.Arm(0))
	want(t, "Sync", full.Sync("a"), api.ErrDown)
	want(t, "Load of one file more", full.Load("q", nil), api.ErrMany)
	want(t, "Load of one that is there", full.Load("p", []byte("pp")), api.OK)
}

// P4.2: as many files as may be, and one more; one that is gone makes place.
func TestMany(t *testing.T) {
	d := made(t, 1000)
	for i := range 8 {
		want(t, "Write", d.Write(letters(i), 0, []byte{1}), api.OK)
		want(t, "Load", d.Load(letters(i+8), nil), api.OK)
	}
	want(t, "Write of a 17th", d.Write("q", 0, []byte{1}), api.ErrMany)
	want(t, "Load of a 17th", d.Load("q", nil), api.ErrMany)
	wantGone(t, d, "q")
	want(t, "Write of one that is there", d.Write("p", 0, []byte{1}), api.OK)
	want(t, "Load of one that is there", d.Load("a", []byte{1}), api.OK)
	d.Crash(nil)
	wantState(t, d, 999, 9, false, "a", "i", "j", "k", "l", "m", "n", "o", "p")
	want(t, "Write where others are gone", d.Write("q", 0, []byte{1}), api.OK)
}

// P4.2, P4.3: example 2, and rooms that are full to the last byte.
func TestRoom(t *testing.T) {
	d := made(t, 10)
	want(t, "Write", d.Write("a", 0, of(1, 8)), api.OK)
	want(t, "Write beyond the room", d.Write("b", 0, of(2, 3)), api.ErrNoSpace)
	wantState(t, d, 2, 1, false, "a")
	want(t, "Write over the file's end", d.Write("a", 2, of(3, 8)), api.OK)
	want(t, "Write behind the end", d.Write("a", 11, of(4, 1)), api.ErrRange)
	want(t, "Write of one byte more", d.Write("a", 10, of(4, 1)), api.ErrNoSpace)
	want(t, "Write of one byte more", d.Write("a", 3, of(4, 8)), api.ErrNoSpace)
	want(t, "Load of one byte more", d.Load("a", of(4, 11)), api.ErrNoSpace)
	want(t, "Load of one byte more", d.Load("b", of(4, 1)), api.ErrNoSpace)
	want(t, "Load of no byte more", d.Load("b", nil), api.OK)
	wantFile(t, d, "a", row(of(1, 2), of(3, 8)))
	want(t, "Write in the place", d.Write("a", 9, of(5, 1)), api.OK)
	want(t, "Cut", d.Cut("a", 4), api.OK)
	want(t, "Write of what was cut", d.Write("b", 0, of(6, 6)), api.OK)
	wantState(t, d, 0, 5, false, "a", "b")
	want(t, "Load of fewer", d.Load("b", of(7, 5)), api.OK)
	want(t, "Load of as many as there is room", d.Load("a", of(8, 5)), api.OK)
	wantState(t, d, 0, 5, false, "a", "b")
	none := made(t, 0)
	want(t, "Write without a room", none.Write("a", 0, of(1, 1)), api.ErrNoSpace)
	want(t, "Load without a room", none.Load("a", of(1, 1)), api.ErrNoSpace)
	want(t, "Load of nothing", none.Load("a", nil), api.OK)
	wantState(t, none, 0, 0, false, "a")
}

// P4.2, P4.3: a disk has more than the room, where a Cut was lost: then all that makes nothing longer goes well.
func TestMoreThanTheRoom(t *testing.T) {
	d := made(t, 10)
	ok(t, d.Load("a", of(1, 8)))
	ok(t, d.Cut("a", 0))
	ok(t, d.Write("b", 0, of(2, 8)))
	d.Crash([]int{0, 1})
	wantFile(t, d, "a", of(1, 8))
	wantFile(t, d, "b", of(2, 8))
	wantState(t, d, 0, 2, false, "a", "b")
	want(t, "Write of one byte more", d.Write("a", 8, of(3, 1)), api.ErrNoSpace)
	want(t, "Write of a new file", d.Write("c", 0, of(3, 1)), api.ErrNoSpace)
	want(t, "Load of one byte more", d.Load("b", of(3, 9)), api.ErrNoSpace)
	want(t, "Write of as many", d.Write("a", 0, of(3, 8)), api.OK)
	want(t, "Load of as many", d.Load("b", of(4, 8)), api.OK)
	want(t, "Load of fewer, still too many", d.Load("b", of(4, 7)), api.OK)
	want(t, "Load of nothing", d.Load("c", nil), api.OK)
	want(t, "Cut", d.Cut("a", 4), api.OK)
	wantState(t, d, 0, 4, false, "a", "b", "c")
	want(t, "Cut", d.Cut("a", 2), api.OK)
	wantState(t, d, 1, 5, false, "a", "b", "c")
}

// P4.3, Write: at all places of a file, bytes over its end and not.
func TestWrite(t *testing.T) {
	old := []byte("abcde")
	for at := -2; at <= 7; at++ {
		for n := range 8 {
			d := made(t, 100)
			ok(t, d.Load("a", old))
			b := []byte("0123456")[:n]
			if at < 0 || at > len(old) {
				want(t, "Write outside", d.Write("a", at, b), api.ErrRange)
				wantFile(t, d, "a", old)
				wantState(t, d, 95, 0, false, "a")
				continue
			}
			want(t, "Write", d.Write("a", at, b), api.OK)
			wantFile(t, d, "a", row(old[:at], b, old[min(at+n, len(old)):]))
			if changes := min(n, 1); d.Changes() != changes {
				t.Errorf("Write of %d bytes: %d changes", n, d.Changes())
			}
		}
	}
	d := made(t, 100)
	for _, at := range []int{1, -1, least, greatest} {
		want(t, "Write to no file", d.Write("a", at, []byte{1}), api.ErrRange)
		want(t, "Write of nothing to no file", d.Write("a", at, nil), api.ErrRange)
	}
	want(t, "Write of nothing", d.Write("a", 0, nil), api.OK)
	want(t, "Write of nothing", d.Write("a", 0, []byte{}), api.OK)
	wantGone(t, d, "a")
	wantState(t, d, 100, 0, false)
	want(t, "Write that makes it", d.Write("a", 0, []byte{7}), api.OK)
	wantState(t, d, 99, 1, false, "a")
}

// P4.3, Cut: to all lengths; what was cut doesn't come back where the file grows anew.
func TestCut(t *testing.T) {
	old := []byte("abcde")
	for _, n := range []int{least, -1, 0, 1, 4, 5, 6, greatest} {
		d := made(t, 100)
		ok(t, d.Load("a", old))
		if n < 0 || n > 5 {
			want(t, "Cut outside", d.Cut("a", n), api.ErrRange)
			wantFile(t, d, "a", old)
			wantState(t, d, 95, 0, false, "a")
			continue
		}
		want(t, "Cut", d.Cut("a", n), api.OK)
		wantFile(t, d, "a", old[:n])
		wantState(t, d, 100-n, 1, false, "a")
		want(t, "Write", d.Write("a", n, []byte("x")), api.OK)
		wantFile(t, d, "a", row(old[:n], []byte("x")))
		d.Crash([]int{1})
		wantFile(t, d, "a", row(old[:n], []byte("x")))
	}
	d := made(t, 100)
	want(t, "Cut of no file", d.Cut("a", 0), api.ErrNone)
	wantState(t, d, 100, 0, false)
}

// P4.3, Read: all places and lengths; those at and beyond each end.
func TestRead(t *testing.T) {
	d := made(t, 100)
	b := []byte("abcde")
	ok(t, d.Write("a", 0, b))
	for at := -2; at <= 7; at++ {
		for n := -2; n <= 8; n++ {
			if at < 0 || n < 0 || at+n > 5 {
				wantRead(t, d, "a", at, n, nil, api.ErrRange)
			} else {
				wantRead(t, d, "a", at, n, b[at:at+n], api.OK)
			}
		}
	}
	for _, p := range [][2]int{{greatest, 0}, {0, greatest}, {1, greatest}, {greatest, 1}, {greatest, greatest}, {least, 0}, {0, least}, {least, greatest}, {greatest, least}, {least, least}, {5, greatest}, {6, 0}} {
		wantRead(t, d, "a", p[0], p[1], nil, api.ErrRange)
	}
	wantRead(t, d, "b", 0, 0, nil, api.ErrNone)
	ok(t, d.Load("b", nil))
	wantRead(t, d, "b", 0, 0, nil, api.OK)
	if d.Changes() != 1 {
		t.Errorf("a Read is no change: %d", d.Changes())
	}
}

// P4.3: Names are rising, whatever came first; Size and Free go by what is to be seen.
func TestSizes(t *testing.T) {
	d := made(t, 100)
	for _, name := range []string{"z", "ab", "b", "aa", "a", "zz", "y", "m"} {
		ok(t, d.Write(name, 0, of(1, len(name))))
	}
	wantState(t, d, 89, 8, false, "a", "aa", "ab", "b", "m", "y", "z", "zz")
	if d.Size("ab") != 2 || d.Size("z") != 1 || d.Size("q") != -1 {
		t.Errorf("sizes %d, %d, %d", d.Size("ab"), d.Size("z"), d.Size("q"))
	}
	ok(t, d.Load("m", nil))
	wantState(t, d, 90, 8, false, "a", "aa", "ab", "b", "m", "y", "z", "zz")
	if d.Size("m") != 0 {
		t.Errorf("size of an empty file: %d", d.Size("m"))
	}
}

// P4.3: without power nothing is to be seen, but Free and Changes go on.
func TestWithoutPower(t *testing.T) {
	d := made(t, 100)
	ok(t, d.Write("a", 0, of(1, 10)))
	ok(t, d.Sync("a"))
	ok(t, d.Arm(1))
	ok(t, d.Cut("a", 5))
	want(t, "Write", d.Write("a", 0, of(2, 9)), api.ErrDown)
	wantState(t, d, 95, 3, true)
	if d.Size("a") != -1 || d.Size("b") != -1 {
		t.Errorf("sizes %d, %d", d.Size("a"), d.Size("b"))
	}
	wantRead(t, d, "a", 0, 1, nil, api.ErrDown)
	d.Crash(nil)
	wantState(t, d, 90, 3, false, "a")
}

// P4.3, Load: what was pending of the file is done with, and of no other.
func TestLoad(t *testing.T) {
	d := made(t, 1000)
	ok(t, d.Write("a", 0, of(1, 70)))
	ok(t, d.Write("b", 0, of(2, 70)))
	ok(t, d.Cut("a", 3))
	ok(t, d.Load("a", []byte("new")))
	wantFile(t, d, "a", []byte("new"))
	wantFile(t, d, "b", of(2, 70))
	if d.Changes() != 3 {
		t.Errorf("a Load is no change: %d", d.Changes())
	}
	d.Crash([]int{1, 0}) // the two pieces of b alone
	wantFile(t, d, "a", []byte("new"))
	wantFile(t, d, "b", of(2, 64))
	ok(t, d.Arm(0))
	want(t, "Load of an armed disk", d.Load("a", []byte("newer")), api.OK)
	want(t, "Load of an armed disk", d.Load("c", nil), api.OK)
	wantState(t, d, 931, 3, false, "a", "b", "c")
	want(t, "Sync", d.Sync("a"), api.ErrDown)
	d.Crash(nil)
	wantFile(t, d, "a", []byte("newer"))
	wantFile(t, d, "c", nil)
}

// P4.3, Sync: what is safe stays, what came later doesn't; of other files nothing is made safe.
func TestSync(t *testing.T) {
	d := made(t, 1000)
	ok(t, d.Write("a", 0, of(1, 100)))
	ok(t, d.Write("b", 0, of(2, 100)))
	ok(t, d.Cut("a", 90))
	ok(t, d.Write("a", 10, of(3, 60)))
	ok(t, d.Sync("a"))
	wantFile(t, d, "a", row(of(1, 10), of(3, 60), of(1, 20)))
	ok(t, d.Write("a", 0, of(4, 100)))
	ok(t, d.Cut("a", 1))
	d.Crash(nil)
	wantFile(t, d, "a", row(of(1, 10), of(3, 60), of(1, 20)))
	wantGone(t, d, "b")
	want(t, "Sync of no file", d.Sync("b"), api.ErrNone)
	changes := d.Changes()
	ok(t, d.Sync("a"))
	ok(t, d.Sync("a"))
	if d.Changes() != changes+2 {
		t.Errorf("a Sync of what is safe is a change too: %d, want %d", d.Changes(), changes+2)
	}
}

// changes are calls that make a change each, on the files that those ahead leave.
func changes() []func(d *disk.Disk) api.Errno {
	return []func(d *disk.Disk) api.Errno{
		func(d *disk.Disk) api.Errno { return d.Write("a", 0, of(1, 100)) },
		func(d *disk.Disk) api.Errno { return d.Write("b", 0, of(2, 10)) },
		func(d *disk.Disk) api.Errno { return d.Sync("a") },
		func(d *disk.Disk) api.Errno { return d.Cut("a", 100) },
		func(d *disk.Disk) api.Errno { return d.Write("a", 50, of(3, 20)) },
		func(d *disk.Disk) api.Errno { return d.Cut("b", 0) },
		func(d *disk.Disk) api.Errno { return d.Sync("b") },
		func(d *disk.Disk) api.Errno { return d.Sync("b") },
	}
}

// P4.4: the power goes at each change, and is off till a crash; then all changes are made.
func TestArm(t *testing.T) {
	for n := range len(changes()) + 3 {
		d, twin := made(t, 1000), made(t, 1000)
		ok(t, d.Arm(n))
		if d.Down() || d.Changes() != 0 {
			t.Errorf("Arm(%d): down %v, %d changes", n, d.Down(), d.Changes())
		}
		for i, change := range changes() {
			if i < n {
				want(t, "a change ahead", change(d), api.OK)
				ok(t, change(twin))
				continue
			}
			want(t, "a change behind", change(d), api.ErrDown)
			if !d.Down() || d.Changes() != n {
				t.Errorf("Arm(%d), change %d: down %v, %d changes", n, i, d.Down(), d.Changes())
			}
		}
		d.Crash([]int{1})
		wantState(t, d, twin.Free(), twin.Changes(), false, twin.Names()...)
		for _, name := range twin.Names() {
			b, _ := twin.Read(name, 0, twin.Size(name))
			wantFile(t, d, name, b)
		}
		for i := n; i < len(changes()); i++ {
			want(t, "a change behind the crash", changes()[i](d), api.OK)
		}
	}
}

// P4.4: what is no change has no power go: reads, Loads, Writes of nothing, calls with errors.
func TestArmNoChange(t *testing.T) {
	d := made(t, 10)
	ok(t, d.Load("a", of(1, 10)))
	ok(t, d.Arm(0))
	want(t, "Write of nothing", d.Write("a", 0, nil), api.OK)
	want(t, "Write of nothing to no file", d.Write("b", 0, nil), api.OK)
	want(t, "Write outside", d.Write("a", 11, of(1, 1)), api.ErrRange)
	want(t, "Write beyond the room", d.Write("a", 10, of(1, 1)), api.ErrNoSpace)
	want(t, "Cut outside", d.Cut("a", 11), api.ErrRange)
	want(t, "Cut of no file", d.Cut("b", 0), api.ErrNone)
	want(t, "Sync of no file", d.Sync("b"), api.ErrNone)
	want(t, "Load", d.Load("b", nil), api.OK)
	wantRead(t, d, "a", 9, 1, of(1, 1), api.OK)
	wantState(t, d, 0, 0, false, "a", "b")
	want(t, "Cut to what it has", d.Cut("a", 10), api.ErrDown)
	wantState(t, d, 0, 0, true)
}

// P4.4: another Arm takes the place of the one ahead; of a wrong one nothing changes.
func TestArmAnew(t *testing.T) {
	d := made(t, 10)
	ok(t, d.Load("a", nil))
	ok(t, d.Arm(0))
	ok(t, d.Arm(3))
	want(t, "Sync", d.Sync("a"), api.OK)
	for _, n := range []int{-1, -2, least} {
		want(t, "Arm below 0", d.Arm(n), api.ErrArg)
	}
	ok(t, d.Arm(1))
	want(t, "Sync", d.Sync("a"), api.OK)
	want(t, "Sync", d.Sync("a"), api.ErrDown)
	ok(t, d.Arm(5))
	want(t, "Sync, the power is still off", d.Sync("a"), api.ErrDown)
	d.Crash(nil)
	ok(t, d.Arm(greatest))
	want(t, "Sync", d.Sync("a"), api.OK)
	wantState(t, d, 10, 3, false, "a")
	ok(t, d.Arm(0))
	want(t, "Arm below 0", d.Arm(-1), api.ErrArg)
	want(t, "Sync", d.Sync("a"), api.ErrDown)
}

// P4.5: a crash ends an arming that hasn't come true.
func TestCrashIsNotArmed(t *testing.T) {
	d := made(t, 10)
	ok(t, d.Load("a", nil))
	ok(t, d.Arm(1))
	ok(t, d.Sync("a"))
	d.Crash(nil)
	for range 3 {
		want(t, "Sync", d.Sync("a"), api.OK)
	}
	wantState(t, d, 10, 4, false, "a")
}

// P4.5: example 1.
func TestCrashExample(t *testing.T) {
	d := made(t, 1000)
	ok(t, d.Write("a", 0, of(9, 100)))
	d.Crash([]int{1, 0})
	wantFile(t, d, "a", of(9, 64))
	d = made(t, 1000)
	ok(t, d.Write("a", 0, of(9, 100)))
	d.Crash([]int{0, 1})
	wantFile(t, d, "a", row(of(0, 64), of(9, 36)))
}

// P4.5: what picks say: numbers below 0 too, fewer than there are pieces and more, none.
func TestPicks(t *testing.T) {
	cases := []struct {
		picks []int
		kept  [3]bool
	}{
		{nil, [3]bool{}},
		{[]int{}, [3]bool{}},
		{[]int{0}, [3]bool{}},
		{[]int{2, -2, least}, [3]bool{}},
		{[]int{1}, [3]bool{true, true, true}},
		{[]int{3, -1, greatest}, [3]bool{true, true, true}},
		{[]int{-3, 4, 0}, [3]bool{true, false, false}},
		{[]int{0, 1}, [3]bool{false, true, false}},
		{[]int{1, 0}, [3]bool{true, false, true}},
		{[]int{0, 0, 1, 1, 1}, [3]bool{false, false, true}},
		{[]int{0, 1, 1, 0}, [3]bool{false, true, true}},
	}
	for _, c := range cases {
		d := made(t, 1000)
		ok(t, d.Load("a", of(9, 192)))
		ok(t, d.Write("a", 0, of(1, 192)))
		d.Crash(c.picks)
		var b []byte
		for _, kept := range c.kept {
			if kept {
				b = append(b, of(1, 64)...)
			} else {
				b = append(b, of(9, 64)...)
			}
		}
		wantFile(t, d, "a", b)
	}
}

// P4.5, Words: a Write is parted at sectors' ends, wherever it begins and ends.
func TestPieces(t *testing.T) {
	for _, c := range []struct {
		at, n int
		ends  []int // where its pieces end, from its own begin on
	}{
		{0, 1, []int{1}}, {0, 63, []int{63}}, {0, 64, []int{64}}, {0, 65, []int{64, 65}},
		{63, 1, []int{1}}, {63, 2, []int{1, 2}}, {64, 64, []int{64}}, {1, 64, []int{63, 64}},
		{10, 200, []int{54, 118, 182, 200}}, {128, 129, []int{64, 128, 129}}, {100, 28, []int{28}}, {100, 29, []int{28, 29}},
	} {
		for one := range c.ends {
			d := made(t, 1000)
			ok(t, d.Load("a", of(9, 300)))
			ok(t, d.Write("a", c.at, of(1, c.n)))
			picks := make([]int, len(c.ends))
			picks[one] = 1
			d.Crash(picks)
			b := of(9, 300)
			from := 0
			if one > 0 {
				from = c.ends[one-1]
			}
			copy(b[c.at+from:], of(1, c.ends[one]-from))
			wantFile(t, d, "a", b)
		}
	}
}

// P4.5: Cuts are kept or lost; where the file is shorter a kept one does nothing; bytes 0 come in between.
func TestCrashCut(t *testing.T) {
	begin := func() *disk.Disk {
		d := made(t, 1000)
		ok(t, d.Load("a", of(9, 64)))
		ok(t, d.Write("a", 64, of(1, 64)))  // piece 0
		ok(t, d.Cut("a", 100))              // piece 1
		ok(t, d.Cut("a", 70))               // piece 2
		ok(t, d.Write("a", 70, of(2, 10)))  // piece 3
		ok(t, d.Write("a", 80, of(3, 100))) // pieces 4 and 5
		return d
	}
	for _, c := range []struct {
		picks []int
		b     []byte
	}{
		{[]int{0, 0, 0, 0, 0, 0}, of(9, 64)},
		{[]int{1, 0, 0, 0, 0, 0}, row(of(9, 64), of(1, 64))},
		{[]int{0, 1, 0, 0, 0, 0}, of(9, 64)},
		{[]int{1, 1, 0, 0, 0, 0}, row(of(9, 64), of(1, 36))},
		{[]int{1, 0, 1, 0, 0, 0}, row(of(9, 64), of(1, 6))},
		{[]int{0, 0, 0, 1, 0, 0}, row(of(9, 64), of(0, 6), of(2, 10))},
		{[]int{1, 0, 0, 1, 0, 0}, row(of(9, 64), of(1, 6), of(2, 10), of(1, 48))},
		{[]int{1, 0, 1, 0, 1, 0}, row(of(9, 64), of(1, 6), of(0, 10), of(3, 48))},
		{[]int{0, 0, 0, 0, 0, 1}, row(of(9, 64), of(0, 64), of(3, 52))},
		{[]int{1, 1, 1, 1, 1, 1}, row(of(9, 64), of(1, 6), of(2, 10), of(3, 100))},
	} {
		d := begin()
		d.Crash(c.picks)
		wantFile(t, d, "a", c.b)
	}
	d := made(t, 1000)
	ok(t, d.Load("a", of(9, 64)))
	ok(t, d.Cut("a", 0))
	ok(t, d.Write("a", 0, of(1, 3)))
	d.Crash([]int{0, 1})
	wantFile(t, d, "a", row(of(1, 3), of(9, 61)))
}

// P4.5: which files are gone: those that have never been safe, and of which no part of a Write is kept.
func TestGone(t *testing.T) {
	d := made(t, 1000)
	ok(t, d.Write("a", 0, of(1, 10))) // piece 0
	ok(t, d.Cut("a", 0))              // piece 1
	ok(t, d.Write("b", 0, of(2, 10))) // piece 2
	ok(t, d.Cut("b", 0))              // piece 3
	ok(t, d.Load("c", nil))
	ok(t, d.Write("c", 0, of(3, 10))) // piece 4
	ok(t, d.Write("e", 0, of(4, 10)))
	ok(t, d.Cut("e", 0))
	ok(t, d.Sync("e"))
	ok(t, d.Write("e", 0, of(5, 10))) // piece 5
	ok(t, d.Write("f", 0, of(6, 10))) // piece 6
	d.Crash([]int{0, 1, 1, 1, 0, 0, 0})
	wantState(t, d, 1000, 10, false, "b", "c", "e")
	for _, name := range []string{"b", "c", "e"} {
		wantFile(t, d, name, nil)
	}
	for _, name := range []string{"a", "f"} {
		wantGone(t, d, name)
	}
	d.Crash(nil)
	wantState(t, d, 1000, 10, false, "b", "c", "e")
	ok(t, d.Write("a", 0, of(7, 2)))
	wantFile(t, d, "a", of(7, 2))
	d.Crash(nil)
	wantGone(t, d, "a")
	ok(t, d.Write("f", 0, of(8, 2)))
	d.Crash([]int{1})
	d.Crash(nil)
	wantFile(t, d, "f", of(8, 2))
}

// P4.5: all that is there behind a crash is safe, and nothing waits: the pieces of the next one are counted from 0 on.
func TestCrashTwice(t *testing.T) {
	d := made(t, 1000)
	ok(t, d.Write("a", 0, of(1, 100)))
	d.Crash([]int{1})
	d.Crash(nil)
	wantFile(t, d, "a", of(1, 100))
	ok(t, d.Write("a", 0, of(2, 100)))
	d.Crash([]int{0, 1})
	wantFile(t, d, "a", row(of(1, 64), of(2, 36)))
	ok(t, d.Write("a", 0, of(3, 10)))
	d.Crash(nil)
	wantFile(t, d, "a", row(of(1, 64), of(2, 36)))
	d.Crash([]int{1})
	wantFile(t, d, "a", row(of(1, 64), of(2, 36)))
}

// P4.5: the pieces of several files have one order; a Sync takes its own out of it.
func TestCrashSeveral(t *testing.T) {
	for picks := range 1 << 7 {
		b := newBoth(t, 1000)
		b.load("c", of(1, 90))
		b.write("b", 0, of(2, 10))
		b.write("a", 0, of(3, 70))
		b.write("b", 10, of(4, 60))
		b.write("c", 60, of(5, 10))
		b.sync("b")
		b.cut("c", 30)
		b.cut("a", 66)
		b.write("b", 66, of(6, 10))
		if n := b.m.pieces(); n != 7 {
			t.Fatalf("%d pieces", n)
		}
		row := make([]int, 7)
		for i := range row {
			row[i] = picks >> i & 1
		}
		b.crash(row...)
	}
}

// P4.5: all ways to keep and to lose of up to ten pieces that dice made.
func TestCrashAll(t *testing.T) {
	for seed := range 40 {
		script := func(b both) {
			r := rand.New(rand.NewSource(int64(seed)))
			for range 30 {
				name := letters(r.Intn(3))
				size := max(b.m.size(name), 0)
				switch r.Intn(8) {
				case 0:
					b.sync(name)
				case 1, 2:
					b.cut(name, r.Intn(size+1))
				case 3:
					b.load(name, some(r, r.Intn(100)))
				default:
					b.write(name, r.Intn(size+1), some(r, r.Intn(100)))
				}
				if b.m.pieces() >= 8 {
					return
				}
			}
		}
		for picks := 0; ; picks++ {
			b := newBoth(t, 1000)
			script(b)
			n := b.m.pieces()
			if n > 10 || picks >= 1<<n {
				break
			}
			row := make([]int, n)
			for i := range row {
				row[i] = picks >> i & 1
			}
			b.crash(row...)
		}
	}
}

// P4.6, R4: what is handed in isn't kept: it may be written over later.
func TestNotKept(t *testing.T) {
	d := made(t, 1000)
	loaded, written := of(1, 100), of(2, 100)
	ok(t, d.Load("a", loaded))
	ok(t, d.Write("b", 0, written))
	ok(t, d.Write("a", 50, written))
	clear(loaded)
	clear(written)
	wantFile(t, d, "a", row(of(1, 50), of(2, 100)))
	wantFile(t, d, "b", of(2, 100))
	d.Crash([]int{0, 1, 0, 1, 1})
	wantFile(t, d, "b", row(of(0, 64), of(2, 36)))
	wantFile(t, d, "a", row(of(1, 64), of(2, 86)))
}

// P4.6, R4: neither the elements that are handed in are changed, nor is the room behind them read or changed.
func TestNotChanged(t *testing.T) {
	full := of(5, 300)
	b := full[50:150]
	picks := []int{9, 1, 0, 1, 9, 9}
	d := made(t, 1000)
	ok(t, d.Load("a", b))
	ok(t, d.Write("a", 100, b))
	ok(t, d.Write("b", 0, b))
	ok(t, d.Write("a", 10, of(7, 10)))
	ok(t, d.Cut("a", 5))
	ok(t, d.Write("a", 5, of(8, 200)))
	d.Crash(picks[1:4])
	ok(t, d.Write("a", 0, of(8, 60)))
	ok(t, d.Write("b", d.Size("b"), of(8, 60)))
	if !bytes.Equal(full, of(5, 300)) {
		t.Errorf("the bytes handed in were changed: %v", full)
	}
	if !slices.Equal(picks, []int{9, 1, 0, 1, 9, 9}) {
		t.Errorf("the picks were changed: %v", picks)
	}
}

// P4.6, R4: an answer is new memory: what is done to it reaches neither the file nor another answer, nor the other way about.
func TestNewMemory(t *testing.T) {
	d := made(t, 1000)
	ok(t, d.Load("a", of(1, 100)))
	first, _ := d.Read("a", 10, 20)
	second, _ := d.Read("a", 10, 20)
	for i := range first {
		first[i] = 9
	}
	_ = append(first, of(9, 50)...)
	wantFile(t, d, "a", of(1, 100))
	if !bytes.Equal(second, of(1, 20)) {
		t.Errorf("two answers share memory: %v", second)
	}
	ok(t, d.Write("a", 0, of(3, 100)))
	if !bytes.Equal(second, of(1, 20)) {
		t.Errorf("a Write changed an answer: %v", second)
	}
	names := d.Names()
	names[0] = "x"
	wantState(t, d, 900, 1, false, "a")
	d.Crash(nil)
	wantFile(t, d, "a", of(1, 100))
}

// P4.5, P4.6: the bytes that are safe and those that are to be seen share no memory, wherever they came from.
func TestSafeIsApart(t *testing.T) {
	for _, begin := range []func(d *disk.Disk){
		func(d *disk.Disk) { ok(t, d.Load("a", of(1, 100))) },
		func(d *disk.Disk) { ok(t, d.Write("a", 0, of(1, 100))); ok(t, d.Sync("a")) },
		func(d *disk.Disk) { ok(t, d.Write("a", 0, of(1, 100))); d.Crash([]int{1}) },
	} {
		d := made(t, 1000)
		begin(d)
		for range 2 {
			ok(t, d.Write("a", 10, of(2, 10)))
			ok(t, d.Cut("a", 50))
			ok(t, d.Write("a", 50, of(3, 100)))
			d.Crash(nil)
			wantFile(t, d, "a", of(1, 100))
		}
	}
}

// P4.2, R5: a call with an error leaves what is pending as it was, too.
func TestErrorsLeavePending(t *testing.T) {
	wrong := []func(d *disk.Disk) api.Errno{
		func(d *disk.Disk) api.Errno { return d.Load("a", of(9, 301)) },
		func(d *disk.Disk) api.Errno { return d.Load("", nil) },
		func(d *disk.Disk) api.Errno { return d.Write("a", 101, of(9, 9)) },
		func(d *disk.Disk) api.Errno { return d.Write("a", 100, of(9, 201)) },
		func(d *disk.Disk) api.Errno { return d.Cut("a", 101) },
		func(d *disk.Disk) api.Errno { return d.Cut("b", 0) },
		func(d *disk.Disk) api.Errno { return d.Sync("b") },
		func(d *disk.Disk) api.Errno { return d.Arm(-1) },
		func(d *disk.Disk) api.Errno { _, e := d.Read("a", 99, 2); return e },
	}
	for picks := range 4 {
		d := made(t, 300)
		ok(t, d.Load("a", of(1, 64)))
		ok(t, d.Write("a", 0, of(2, 100)))
		for i, call := range wrong {
			if e := call(d); e == api.OK {
				t.Fatalf("wrong call %d: no error", i)
			}
		}
		wantFile(t, d, "a", of(2, 100))
		wantState(t, d, 200, 1, false, "a")
		d.Crash([]int{picks & 1, picks >> 1})
		b := of(1, 64)
		if picks&1 == 1 {
			b = of(2, 64)
		}
		if picks>>1 == 1 {
			b = row(b, of(2, 36))
		}
		wantFile(t, d, "a", b)
	}
}
