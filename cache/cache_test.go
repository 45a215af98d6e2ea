package cache_test

import (
	"bytes"
	"math"
	"slices"
	"strings"
	"testing"

	"octavo/api"
	"octavo/cache"
	"octavo/disk"
)

const (
	least    = math.MinInt
	greatest = math.MaxInt
	last     = api.MaxPages - 1 // the greatest number of a page
)

// wrongNumbers are no page's, some of them good ones in fewer bits.
func wrongNumbers() []int {
	return []int{-1, -2, -256, api.MaxPages, api.MaxPages + 1, least, least + 1, greatest, greatest - 1,
		1 << 31, 1 << 32, 1<<32 + 1, 1 << 56, 1<<56 + 1, math.MinInt32}
}

// body answers a page's bytes, none of which goes on as those of another number do.
func body(x int) []byte {
	b := make([]byte, api.Page)
	for i := range b {
		b[i] = byte(x*37 + i*i + i + 1)
	}
	return b
}

// zeros answers n bytes 0.
func zeros(n int) []byte { return make([]byte, n) }

// row joins bytes.
func row(parts ...[]byte) []byte { return bytes.Join(parts, nil) }

func diskOf(t *testing.T, room int) *disk.Disk {
	t.Helper()
	d, e := disk.New(room)
	if e != api.OK {
		t.Fatalf("disk.New(%d): %d", room, e)
	}
	return d
}

// loaded answers a disk with a file "a" of these bytes.
func loaded(t *testing.T, room int, b []byte) *disk.Disk {
	t.Helper()
	d := diskOf(t, room)
	ok(t, d.Load("a", b))
	return d
}

// cacheOf answers a cache of a file "a", in which the pages are put, that of number n with body(n).
func cacheOf(t *testing.T, d *disk.Disk, capacity int, pages ...int) *cache.Cache {
	t.Helper()
	c, e := cache.New(d, "a", capacity)
	if e != api.OK || c == nil {
		t.Fatalf("New(%d): %v, error %d", capacity, c, e)
	}
	for _, no := range pages {
		ok(t, c.Put(no, body(no)))
	}
	return c
}

// ok ends the test where a call that has to be made for what follows is refused.
func ok(t *testing.T, e api.Errno) {
	t.Helper()
	if e != api.OK {
		t.Fatalf("refused: %d", e)
	}
}

func want(t *testing.T, call string, got, e api.Errno) {
	t.Helper()
	if got != e {
		t.Fatalf("%s: error %d, want %d", call, got, e)
	}
}

func wantForget(t *testing.T, c *cache.Cache, no int, was bool) {
	t.Helper()
	if got := c.Forget(no); got != was {
		t.Fatalf("Forget(%d): %v", no, got)
	}
}

// wantGet asks for a page's bytes, or for an error and none.
func wantGet(t *testing.T, c *cache.Cache, no int, b []byte, e api.Errno) {
	t.Helper()
	got, gotE := c.Get(no)
	if gotE != e {
		t.Fatalf("Get(%d): error %d, want %d", no, gotE, e)
	}
	if !bytes.Equal(got, b) {
		t.Fatalf("Get(%d): %v, want %v", no, got, b)
	}
}

// wantCounts asks for Resident and Reads.
func wantCounts(t *testing.T, c *cache.Cache, resident, reads int) {
	t.Helper()
	if c.Resident() != resident || c.Reads() != reads {
		t.Fatalf("%d at hand, %d read; want %d, %d", c.Resident(), c.Reads(), resident, reads)
	}
}

// atHand asks by a Pin whether a page is at hand, and takes the Pin back: no Pin is a use.
func atHand(c *cache.Cache, no int) bool {
	return c.Pin(no) == api.OK && c.Unpin(no) == api.OK
}

// wantHand asks which of the first pages are at hand, and that no other ones are.
func wantHand(t *testing.T, c *cache.Cache, pages ...int) {
	t.Helper()
	var got []int
	for no := range 20 {
		if atHand(c, no) {
			got = append(got, no)
		}
	}
	if !slices.Equal(got, slices.Sorted(slices.Values(pages))) || c.Resident() != len(pages) {
		t.Fatalf("at hand are %v, %d in all; want %v", got, c.Resident(), pages)
	}
}

// wantFile asks for all bytes of the file "a" and for how many changes were made; nil: it isn't there.
func wantFile(t *testing.T, d *disk.Disk, changes int, b []byte) {
	t.Helper()
	if d.Changes() != changes {
		t.Fatalf("%d changes, want %d", d.Changes(), changes)
	}
	if b == nil {
		if d.Size("a") != -1 || len(d.Names()) > 0 {
			t.Fatalf("a file of %d bytes is there: %q", d.Size("a"), d.Names())
		}
		return
	}
	got, e := d.Read("a", 0, max(d.Size("a"), 0))
	if e != api.OK || !bytes.Equal(got, b) {
		t.Fatalf("the file has %d bytes, error %d, want %d:\n%v\n%v", len(got), e, len(b), got, b)
	}
}

// The chapter's examples.
func TestExamples(t *testing.T) {
	d := diskOf(t, 10000)
	c := cacheOf(t, d, 1)
	ok(t, c.Put(0, body(0)))
	wantFile(t, d, 0, nil)
	ok(t, c.Put(1, body(1)))
	wantFile(t, d, 1, body(0))
	wantGet(t, c, 0, body(0), api.OK)
	wantFile(t, d, 2, row(body(0), body(1)))
	wantCounts(t, c, 1, 1)
	ok(t, c.Put(3, body(3)))
	ok(t, c.Flush())
	wantFile(t, d, 5, row(body(0), body(1), zeros(256), body(3)))
	wantCounts(t, c, 1, 1)
}

// P7.1: capacities that may be; no page is at hand, and the disk is left as it is.
func TestNew(t *testing.T) {
	for _, capacity := range []int{1, 2, 3, 255, 4095, 4096} {
		d := loaded(t, 10000, body(0))
		c := cacheOf(t, d, capacity)
		wantCounts(t, c, 0, 0)
		wantHand(t, c)
		wantFile(t, d, 0, body(0))
		empty := diskOf(t, 10000)
		wantCounts(t, cacheOf(t, empty, capacity), 0, 0)
		wantFile(t, empty, 0, nil)
	}
}

// P7.1: nothing is asked of the power, nor of room.
func TestNewWithoutPower(t *testing.T) {
	d := off(t, loaded(t, 256, body(0)))
	c := cacheOf(t, d, 1)
	d.Crash(nil)
	wantGet(t, c, 0, body(0), api.OK)
	cacheOf(t, diskOf(t, 0), 4096)
	full := diskOf(t, 100)
	for i := range api.MaxFiles {
		ok(t, full.Load(string(rune('b'+i)), nil))
	}
	cacheOf(t, full, 1)
}

// P7.1: what may not be.
func TestNewWrong(t *testing.T) {
	wrong := func(d *disk.Disk, name string, capacity int) {
		t.Helper()
		if c, e := cache.New(d, name, capacity); c != nil || e != api.ErrArg {
			t.Fatalf("New(%v, %q, %d): %v, error %d", d != nil, name, capacity, c, e)
		}
	}
	d, dead := diskOf(t, 1000), off(t, diskOf(t, 1000))
	for _, capacity := range []int{0, -1, -4096, 4097, 4098, 8192, 1<<16 + 1, 1 << 32, 1<<32 + 1, math.MinInt32, least, least + 1, greatest} {
		wrong(d, "a", capacity)
		wrong(dead, "a", capacity)
		wrong(nil, "a", capacity)
		wrong(d, "", capacity)
	}
	names := []string{"", strings.Repeat("a", 17), strings.Repeat("a", 1000), "A", "Z", "a1", "1", "`", "{", "a ", " a", "a.b", "a/b", "ä", "a\x00", "\x00", "\xff", "aB"}
	for _, name := range names {
		for _, capacity := range []int{1, 4096, 0, 4097} {
			wrong(d, name, capacity)
			wrong(dead, name, capacity)
			wrong(nil, name, capacity)
		}
	}
	wrong(nil, "a", 1)
	wrong(nil, "a", 4096)
}

// P7.1: which names there are; the file has that name.
func TestNewNames(t *testing.T) {
	for _, name := range []string{"a", "z", "store", "abcdefghijklmnop", "qrstuvwxyz", strings.Repeat("z", 16)} {
		d := diskOf(t, 1000)
		c, e := cache.New(d, name, 1)
		ok(t, e)
		ok(t, c.Put(0, body(7)))
		ok(t, c.Flush())
		got, e := d.Read(name, 0, 256)
		if e != api.OK || !bytes.Equal(got, body(7)) || !slices.Equal(d.Names(), []string{name}) {
			t.Fatalf("%q: %v, error %d, files %q", name, got, e, d.Names())
		}
	}
}

// P7.1: a nil cache in every call.
func TestNil(t *testing.T) {
	var c *cache.Cache
	for _, no := range append([]int{0, 1, last}, wrongNumbers()...) {
		wantGet(t, c, no, nil, api.ErrArg)
		for _, b := range [][]byte{nil, {}, zeros(255), zeros(256), zeros(257)} {
			want(t, "Put", c.Put(no, b), api.ErrArg)
		}
		want(t, "Pin", c.Pin(no), api.ErrArg)
		want(t, "Unpin", c.Unpin(no), api.ErrArg)
		want(t, "Evict", c.Evict(no), api.ErrArg)
		wantForget(t, c, no, false)
		want(t, "Flush", c.Flush(), api.ErrArg)
		wantCounts(t, c, 0, 0)
	}
}

// R1: a cache that New has not made has neither a disk nor room; all its calls end.
func TestNotMade(t *testing.T) {
	c := &cache.Cache{}
	for _, no := range append([]int{0, last}, wrongNumbers()...) {
		if b, e := c.Get(no); len(b) > 0 || e == api.OK {
			t.Fatalf("Get(%d): %v, error %d", no, b, e)
		}
		if e := c.Put(no, body(0)); e == api.OK {
			t.Fatalf("Put(%d): error %d", no, e)
		}
		want(t, "Pin", c.Pin(no), api.ErrNone)
		want(t, "Unpin", c.Unpin(no), api.ErrNone)
		want(t, "Evict", c.Evict(no), api.OK)
		wantForget(t, c, no, false)
		want(t, "Flush", c.Flush(), api.ErrArg)
		wantCounts(t, c, 0, 0)
	}
}

// P7.2, P7.3: as many pages as the capacity are at hand without the disk, and one more has just the first one let go.
func TestCapacity(t *testing.T) {
	for _, capacity := range []int{1, 2, 3, 7, 256, 4095, 4096} {
		d := diskOf(t, 10000)
		c := cacheOf(t, d, capacity)
		for no := range capacity {
			ok(t, c.Put(no, body(no)))
			wantCounts(t, c, no+1, 0)
		}
		wantFile(t, d, 0, nil)
		for no := range capacity {
			wantGet(t, c, no, body(no), api.OK)
		}
		ok(t, c.Put(capacity, body(capacity)))
		wantFile(t, d, 1, body(0))
		wantCounts(t, c, capacity, 0)
		wantGet(t, c, 0, body(0), api.OK)
		wantCounts(t, c, capacity, 1)
		if capacity > 1 && (atHand(c, 1) || !atHand(c, capacity)) {
			t.Fatalf("capacity %d: the second page is at hand, or the last one isn't", capacity)
		}
	}
}

// P7.2, P7.3, P7.4: numbers that may not be, also when much else is wrong: ErrArg comes first.
func TestWrongNumbers(t *testing.T) {
	d := loaded(t, 1000, row(body(0), body(1)))
	plain := cacheOf(t, d, 4, 0)
	pinned := cacheOf(t, d, 1, 0)
	ok(t, pinned.Pin(0))
	dead := cacheOf(t, off(t, diskOf(t, 1000)), 1, 0)
	for _, c := range []*cache.Cache{plain, pinned, dead} {
		for _, no := range wrongNumbers() {
			wantGet(t, c, no, nil, api.ErrArg)
			want(t, "Put", c.Put(no, body(1)), api.ErrArg)
			want(t, "Put", c.Put(no, nil), api.ErrArg)
			want(t, "Pin", c.Pin(no), api.ErrNone)
			want(t, "Unpin", c.Unpin(no), api.ErrNone)
			wantForget(t, c, no, false)
		}
		wantCounts(t, c, 1, 0)
		wantHand(t, c, 0)
		wantGet(t, c, 0, body(0), api.OK)
	}
}

// P7.2, P7.3, P7.4: the least and the greatest number that may be.
func TestEndsOfNumbers(t *testing.T) {
	d := diskOf(t, 10000)
	c := cacheOf(t, d, 2)
	wantGet(t, c, 0, nil, api.ErrNone)
	wantGet(t, c, last, nil, api.ErrNone)
	ok(t, c.Put(0, body(1)))
	ok(t, c.Put(last, body(2)))
	wantGet(t, c, 0, body(1), api.OK)
	wantGet(t, c, last, body(2), api.OK)
	ok(t, c.Pin(last))
	want(t, "Evict", c.Evict(greatest), api.OK)
	wantFile(t, d, 1, body(1))
	want(t, "Flush", c.Flush(), api.ErrNoSpace)
	wantFile(t, d, 1, body(1))
	ok(t, c.Unpin(last))
	want(t, "Evict", c.Evict(1), api.ErrNoSpace)
	wantGet(t, c, last, body(2), api.OK)
	wantForget(t, c, last, true)
	wantGet(t, c, last, nil, api.ErrNone)
	ok(t, c.Flush())
	wantFile(t, d, 2, body(1))
}

// P7.3: bodies of other lengths than a page's, of a page at hand and of one that isn't; nothing is changed.
func TestPutLengths(t *testing.T) {
	for _, n := range []int{0, 1, 64, 244, 255, 257, 512, 65536 + 256} {
		d := loaded(t, 1000, row(body(0), body(1)))
		c := cacheOf(t, d, 2)
		wantGet(t, c, 1, body(1), api.OK)
		ok(t, c.Put(0, body(5)))
		for _, no := range []int{0, 1, 2} {
			want(t, "Put", c.Put(no, bytes.Repeat([]byte{9}, n)), api.ErrArg)
		}
		wantGet(t, c, 0, body(5), api.OK)
		wantHand(t, c, 0, 1)
		ok(t, c.Put(2, body(2))) // page 1 was used longest ago, and isn't dirty
		wantFile(t, d, 0, row(body(0), body(1)))
		wantHand(t, c, 0, 2)
	}
	c := cacheOf(t, diskOf(t, 1000), 1, 0)
	want(t, "Put of no bytes", c.Put(0, nil), api.ErrArg)
	want(t, "Put of no bytes", c.Put(1, nil), api.ErrArg)
	wantGet(t, c, 0, body(0), api.OK)
}

// P7.2: a file that isn't there, and files that end ahead of a page, within it and behind it.
func TestGet(t *testing.T) {
	whole := row(body(0), body(1), body(2), body(3))
	for _, size := range []int{-1, 0, 1, 255, 256, 257, 511, 512, 513, 767, 768, 1000} {
		d := diskOf(t, 2000)
		if size >= 0 {
			ok(t, d.Load("a", whole[:size]))
		}
		c := cacheOf(t, d, 2)
		reads, hand := 0, []int{}
		for no := range 4 {
			if (no+1)*256 > size {
				wantGet(t, c, no, nil, api.ErrNone)
			} else {
				wantGet(t, c, no, body(no), api.OK)
				wantGet(t, c, no, body(no), api.OK)
				reads, hand = reads+1, append(hand, no)
			}
			wantCounts(t, c, min(reads, 2), reads)
			wantHand(t, c, hand[max(0, len(hand)-2):]...)
		}
		if d.Changes() != 0 {
			t.Fatalf("a Get of what isn't dirty is no change: %d", d.Changes())
		}
	}
}

// P7.2: what was brought to hand isn't dirty, and is read but once, whatever becomes of the file.
func TestGetKeeps(t *testing.T) {
	d := loaded(t, 1000, row(body(0), body(1)))
	c := cacheOf(t, d, 2)
	wantGet(t, c, 0, body(0), api.OK)
	ok(t, d.Load("a", body(9)))
	wantGet(t, c, 0, body(0), api.OK)
	wantGet(t, c, 1, nil, api.ErrNone)
	ok(t, c.Flush())
	wantFile(t, d, 1, body(9))
	ok(t, c.Evict(1))
	wantFile(t, d, 1, body(9))
	wantGet(t, c, 0, body(9), api.OK)
	wantCounts(t, c, 1, 2)
}

// P7.2: of what is wrong with a Get the first is answered; then nothing is let go.
func TestGetOrder(t *testing.T) {
	d := loaded(t, 512, row(body(0), body(1)))
	c := cacheOf(t, d, 1, 5) // there is no room for page 5
	ok(t, c.Pin(5))
	wantGet(t, c, 2, nil, api.ErrNone)
	wantGet(t, c, 1, nil, api.ErrFull)
	ok(t, c.Unpin(5))
	wantGet(t, c, 2, nil, api.ErrNone)
	wantGet(t, c, 1, nil, api.ErrNoSpace)
	off(t, d)
	wantGet(t, c, 1, nil, api.ErrDown)
	wantGet(t, c, 2, nil, api.ErrDown)
	ok(t, c.Pin(5))
	wantGet(t, c, 2, nil, api.ErrDown)
	wantGet(t, c, 5, body(5), api.OK)
	wantCounts(t, c, 1, 0)
}

// P7.2: a page that isn't in the file has no other one let go, also if that one would have made the file longer.
func TestGetNoneLetsNothingGo(t *testing.T) {
	d := diskOf(t, 10000)
	c := cacheOf(t, d, 1, 3)
	for _, no := range []int{0, 2, 4} {
		wantGet(t, c, no, nil, api.ErrNone)
		wantHand(t, c, 3)
		wantFile(t, d, 0, nil)
	}
	ok(t, d.Load("a", body(8)))
	wantGet(t, c, 1, nil, api.ErrNone)
	wantFile(t, d, 0, body(8))
	wantGet(t, c, 0, body(8), api.OK)
	wantHand(t, c, 0)
	wantFile(t, d, 2, row(body(8), zeros(512), body(3)))
}

// P7.3: a Put of a page at hand has other bytes there, and is dirty, whatever it was.
func TestPut(t *testing.T) {
	d := loaded(t, 1000, row(body(0), body(1)))
	c := cacheOf(t, d, 2)
	wantGet(t, c, 0, body(0), api.OK)
	ok(t, c.Put(0, body(10)))
	ok(t, c.Put(0, body(11)))
	wantGet(t, c, 0, body(11), api.OK)
	wantCounts(t, c, 1, 1)
	wantFile(t, d, 0, row(body(0), body(1)))
	ok(t, c.Flush())
	wantFile(t, d, 2, row(body(11), body(1)))
	ok(t, c.Put(0, body(11))) // the same bytes are put too
	ok(t, c.Flush())
	wantFile(t, d, 4, row(body(11), body(1)))
	ok(t, c.Put(1, body(12))) // of a page that the file has, but that isn't at hand: nothing is read
	wantCounts(t, c, 2, 1)
	wantGet(t, c, 1, body(12), api.OK)
	ok(t, c.Evict(2))
	wantFile(t, d, 5, row(body(11), body(12)))
	wantCounts(t, c, 0, 1)
}

// P7.2, P7.3: a Get and a Put of a page at hand use it, and so it has not to go next.
func TestUse(t *testing.T) {
	for _, use := range []func(c *cache.Cache) api.Errno{
		func(c *cache.Cache) api.Errno { _, e := c.Get(0); return e },
		func(c *cache.Cache) api.Errno { return c.Put(0, body(0)) },
	} {
		c := cacheOf(t, diskOf(t, 10000), 3, 0, 1, 2)
		ok(t, use(c))
		ok(t, c.Put(3, body(3)))
		wantHand(t, c, 0, 2, 3)
		ok(t, use(c))
		wantGet(t, c, 1, body(1), api.OK)
		wantHand(t, c, 0, 1, 3)
		ok(t, use(c))
		ok(t, c.Evict(1))
		wantHand(t, c, 0, 1)
	}
}

// P7.4, Words: no other call is a use, nor is one that is refused.
func TestNoUse(t *testing.T) {
	for i, call := range []func(c *cache.Cache, d *disk.Disk){
		func(c *cache.Cache, d *disk.Disk) { c.Pin(0); c.Unpin(0) },
		func(c *cache.Cache, d *disk.Disk) { c.Unpin(0) },
		func(c *cache.Cache, d *disk.Disk) { c.Put(0, nil) },
		func(c *cache.Cache, d *disk.Disk) { c.Flush() },
		func(c *cache.Cache, d *disk.Disk) { c.Evict(0) },
		func(c *cache.Cache, d *disk.Disk) { c.Pin(0); c.Forget(0); c.Unpin(0) },
		func(c *cache.Cache, d *disk.Disk) { c.Resident(); c.Reads() },
		func(c *cache.Cache, d *disk.Disk) { c.Get(9) },
		func(c *cache.Cache, d *disk.Disk) { off(t, d); c.Flush(); d.Crash([]int{1}) },
		func(c *cache.Cache, d *disk.Disk) { off(t, d); c.Evict(1); d.Crash([]int{1}) },
		func(c *cache.Cache, d *disk.Disk) { off(t, d); c.Put(7, body(7)); d.Crash([]int{1}) },
	} {
		d := diskOf(t, 10000)
		c := cacheOf(t, d, 3, 0, 1, 2)
		call(c, d)
		ok(t, c.Put(3, body(3)))
		if atHand(c, 0) || !atHand(c, 1) {
			t.Fatalf("call %d was a use", i)
		}
		wantHand(t, c, 1, 2, 3)
	}
}

// P7.4: a pinned page stays, whichever calls would have it go, till it is unpinned as often.
func TestPin(t *testing.T) {
	d := diskOf(t, 10000)
	c := cacheOf(t, d, 2, 0, 1)
	ok(t, c.Pin(0))
	ok(t, c.Pin(0))
	ok(t, c.Put(2, body(2))) // page 1 goes, though it was used behind page 0
	wantHand(t, c, 0, 2)
	ok(t, c.Unpin(0))
	wantForget(t, c, 0, false)
	ok(t, c.Evict(5))
	wantHand(t, c, 0)
	ok(t, c.Put(0, body(10)))
	wantGet(t, c, 0, body(10), api.OK)
	ok(t, c.Unpin(0))
	want(t, "Unpin of what isn't pinned", c.Unpin(0), api.ErrNone)
	want(t, "Unpin of what isn't pinned", c.Unpin(0), api.ErrNone)
	ok(t, c.Evict(5))
	wantHand(t, c)
	want(t, "Pin of what isn't at hand", c.Pin(0), api.ErrNone)
	want(t, "Unpin of what isn't at hand", c.Unpin(0), api.ErrNone)
	wantGet(t, c, 0, body(10), api.OK)
	want(t, "Unpin of what came anew", c.Unpin(0), api.ErrNone)
}

// P7.4: pins are counted, however many there are.
func TestManyPins(t *testing.T) {
	c := cacheOf(t, diskOf(t, 1000), 2, 0)
	for range 1000 {
		ok(t, c.Pin(0))
	}
	for range 1000 {
		wantForget(t, c, 0, false)
		ok(t, c.Unpin(0))
	}
	want(t, "Unpin", c.Unpin(0), api.ErrNone)
	wantForget(t, c, 0, true)
}

// P7.2, P7.3: all pages are pinned: what isn't at hand finds no room, what is may be put and got.
func TestAllPinned(t *testing.T) {
	for capacity := 1; capacity <= 4; capacity++ {
		d := loaded(t, 10000, row(body(10), body(11), body(12), body(13), body(14)))
		c := cacheOf(t, d, capacity)
		for no := range capacity {
			wantGet(t, c, no, body(10+no), api.OK)
			ok(t, c.Pin(no))
		}
		wantGet(t, c, capacity, nil, api.ErrFull)
		want(t, "Put", c.Put(capacity, body(0)), api.ErrFull)
		want(t, "Put behind the file", c.Put(9, body(0)), api.ErrFull)
		want(t, "Put of too few bytes", c.Put(9, nil), api.ErrArg)
		wantGet(t, c, 9, nil, api.ErrNone)
		wantCounts(t, c, capacity, capacity)
		ok(t, c.Evict(10))
		wantCounts(t, c, capacity, capacity)
		ok(t, c.Put(0, body(20)))
		ok(t, c.Flush())
		wantGet(t, c, 0, body(20), api.OK)
		wantFile(t, d, 2, row(body(20), body(11), body(12), body(13), body(14)))
		ok(t, c.Unpin(0))
		wantGet(t, c, capacity, body(10+capacity), api.OK)
		wantCounts(t, c, capacity, capacity+1)
	}
}

// P7.4: Evict of nothing, of fewer than nothing, of some, of all and of more than there are.
func TestEvict(t *testing.T) {
	for _, n := range []int{least, -2, -1, 0, 1, 2, 3, 4, 5, 6, 100, 1 << 40, greatest} {
		d := diskOf(t, 10000)
		c := cacheOf(t, d, 5, 3, 0, 4, 1, 2)
		ok(t, c.Pin(0))
		ok(t, c.Evict(n))
		gone := min(max(n, 0), 4)
		wantHand(t, c, append([]int{0}, []int{3, 4, 1, 2}[gone:]...)...)
		ok(t, c.Flush())
		wantGet(t, c, 0, body(0), api.OK)
		for _, no := range []int{3, 4, 1, 2} {
			wantGet(t, c, no, body(no), api.OK)
		}
		wantCounts(t, c, 5, gone)
	}
	c := cacheOf(t, diskOf(t, 10000), 5)
	ok(t, c.Evict(greatest))
	ok(t, c.Evict(1))
	wantCounts(t, c, 0, 0)
}

// P7.4: what is forgotten isn't written, by no call; the file's bytes are read then.
func TestForget(t *testing.T) {
	d := loaded(t, 10000, row(body(0), body(1)))
	c := cacheOf(t, d, 2)
	ok(t, c.Put(0, body(10)))
	ok(t, c.Put(5, body(15)))
	wantForget(t, c, 0, true)
	wantForget(t, c, 0, false)
	wantForget(t, c, 5, true)
	wantForget(t, c, 1, false)
	wantCounts(t, c, 0, 0)
	ok(t, c.Flush())
	ok(t, c.Evict(9))
	wantFile(t, d, 1, row(body(0), body(1)))
	wantGet(t, c, 5, nil, api.ErrNone)
	wantGet(t, c, 0, body(0), api.OK)
	ok(t, c.Flush()) // it isn't dirty any more
	wantFile(t, d, 2, row(body(0), body(1)))
	ok(t, c.Put(0, body(20)))
	ok(t, c.Pin(0))
	wantForget(t, c, 0, false)
	wantGet(t, c, 0, body(20), api.OK)
	ok(t, c.Unpin(0))
	wantForget(t, c, 0, true)
	wantGet(t, c, 1, body(1), api.OK)
	wantForget(t, c, 1, true) // one that isn't dirty
	wantHand(t, c)
}

// P7.4: what was forgotten has made room.
func TestForgetMakesRoom(t *testing.T) {
	d := diskOf(t, 10000)
	c := cacheOf(t, d, 2, 0, 1)
	wantForget(t, c, 1, true)
	ok(t, c.Put(2, body(2)))
	wantHand(t, c, 0, 2)
	wantFile(t, d, 0, nil)
	ok(t, c.Put(3, body(3)))
	wantHand(t, c, 2, 3)
	wantFile(t, d, 1, body(0))
}

// P7.4: Reads counts what Gets have brought to hand alone; Resident is never above the capacity.
func TestCounts(t *testing.T) {
	c := cacheOf(t, loaded(t, 10000, row(body(0), body(1), body(2))), 2)
	wantGet(t, c, 0, body(0), api.OK)
	wantCounts(t, c, 1, 1)
	wantGet(t, c, 0, body(0), api.OK)
	wantCounts(t, c, 1, 1)
	wantGet(t, c, 9, nil, api.ErrNone)
	wantGet(t, c, -1, nil, api.ErrArg)
	wantCounts(t, c, 1, 1)
	ok(t, c.Put(1, body(1)))
	ok(t, c.Pin(1))
	ok(t, c.Flush())
	wantCounts(t, c, 2, 1)
	wantGet(t, c, 2, body(2), api.OK)
	wantCounts(t, c, 2, 2)
	ok(t, c.Evict(1))
	wantCounts(t, c, 1, 2)
	wantGet(t, c, 2, body(2), api.OK)
	wantCounts(t, c, 2, 3)
	wantForget(t, c, 2, true)
	wantCounts(t, c, 1, 3)
}

// P7.5, R4: the bytes that are handed in are not kept, nor is the room behind them touched.
func TestHandedIn(t *testing.T) {
	d := diskOf(t, 10000)
	c := cacheOf(t, d, 3)
	long := row(body(1), body(2))
	b := long[:256]
	ok(t, c.Put(0, b))
	clear(long)
	wantGet(t, c, 0, body(1), api.OK)
	copy(long, row(body(3), body(4)))
	ok(t, c.Put(0, b)) // of a page at hand
	if !bytes.Equal(long, row(body(3), body(4))) {
		t.Fatal("Put changed what it was handed")
	}
	clear(long)
	ok(t, c.Flush())
	wantFile(t, d, 2, body(3))
	ok(t, c.Put(1, b))
	ok(t, c.Put(2, b)) // the same memory twice
	copy(long, body(5))
	ok(t, c.Put(1, b))
	wantGet(t, c, 2, zeros(256), api.OK)
	wantGet(t, c, 1, body(5), api.OK)
}

// P7.5, R4: what is answered is new memory, of a page that was read, of one that was put and of one that was written.
func TestAnswered(t *testing.T) {
	d := loaded(t, 10000, body(0))
	c := cacheOf(t, d, 3, 1)
	for range 3 {
		for no := range 2 {
			b, e := c.Get(no)
			if e != api.OK || !bytes.Equal(b, body(no)) {
				t.Fatalf("Get(%d): %v, error %d", no, b, e)
			}
			clear(b[:cap(b)])
			_ = append(b[:0], 1, 2, 3)
		}
	}
	ok(t, c.Flush())
	wantFile(t, d, 2, row(body(0), body(1)))
	one, _ := c.Get(1)
	ok(t, c.Put(1, body(7)))
	if !bytes.Equal(one, body(1)) {
		t.Fatal("a Put changed what a Get had answered")
	}
	clear(one)
	wantGet(t, c, 1, body(7), api.OK)
}
