package cache_test

import (
	"bytes"
	"slices"
	"testing"

	"octavo/api"
	"octavo/cache"
	"octavo/disk"
)

// off has the power of a disk go, by a change that isn't made: another file's.
func off(t *testing.T, d *disk.Disk) *disk.Disk {
	t.Helper()
	ok(t, d.Load("off", nil))
	ok(t, d.Arm(0))
	if e := d.Sync("off"); e != api.ErrDown || !d.Down() {
		t.Fatalf("the power is on: %d", e)
	}
	return d
}

// Words: bytes 0 are written where the file ends ahead of a page, and only there; each is one Write.
func TestFill(t *testing.T) {
	old := row(body(20), body(21), body(22), body(23), body(24), body(25))
	for _, no := range []int{0, 1, 2, 3} {
		for _, size := range []int{-1, 0, 1, 63, 64, 255, 256, 257, 500, 511, 512, 513, 767, 768, 769, 1000, 1023, 1024, 1025, 1500} {
			d := diskOf(t, 2000)
			if size >= 0 {
				ok(t, d.Load("a", old[:size]))
			}
			c := cacheOf(t, d, 1, no)
			ok(t, c.Evict(1))
			at, has := no*256, max(size, 0)
			changes, b := 1, old[:has]
			if has < at {
				changes, b = 2, row(b, zeros(at-has))
			}
			wantFile(t, d, changes, row(b[:at], body(no), b[min(at+256, len(b)):]))
			wantGet(t, c, no, body(no), api.OK)
		}
	}
}

// Words: the bytes 0 and the page are two Writes: the power may go between them, and the bytes 0 stay.
func TestPowerBetweenTheWrites(t *testing.T) {
	for _, call := range writing() {
		d := loaded(t, 3000, row(body(0), []byte{1, 2, 3}))
		c := cacheOf(t, d, 1, 3)
		ok(t, d.Arm(1))
		want(t, call.name, call.do(c), api.ErrDown)
		if d.Changes() != 1 {
			t.Fatalf("%s: %d changes", call.name, d.Changes())
		}
		wantGet(t, c, 3, body(3), api.OK)
		d.Crash([]int{1})
		wantFile(t, d, 1, row(body(0), []byte{1, 2, 3}, zeros(768-259)))
		ok(t, call.do(c))
		ok(t, c.Flush())
		if got, e := d.Read("a", 768, 256); e != api.OK || !bytes.Equal(got, body(3)) {
			t.Fatalf("%s: %v, error %d", call.name, got, e)
		}
	}
}

// callThatWrites is one that writes the only page at hand, the power being on.
type callThatWrites struct {
	name string
	do   func(c *cache.Cache) api.Errno
}

// writing answers all calls that write: they are for a cache of one page, that is not page 0; page 0 is in the file.
func writing() []callThatWrites {
	return []callThatWrites{
		{"Get", func(c *cache.Cache) api.Errno {
			b, e := c.Get(0)
			if e != api.OK && len(b) > 0 {
				return -1
			}
			return e
		}},
		{"Put", func(c *cache.Cache) api.Errno { return c.Put(0, body(0)) }},
		{"Evict", func(c *cache.Cache) api.Errno { return c.Evict(1) }},
		{"Evict of more", func(c *cache.Cache) api.Errno { return c.Evict(7) }},
		{"Flush", func(c *cache.Cache) api.Errno { return c.Flush() }},
	}
}

// P7.2 to P7.5: without room on the disk each call that writes is refused, the page stays, and is written when there is room.
func TestNoRoom(t *testing.T) {
	for _, call := range writing() {
		for _, free := range []int{0, 1, 255, 256, 511} { // 512 bytes have to be written
			d := loaded(t, 1000, body(0))
			ok(t, d.Load("b", zeros(1000-256-free)))
			c := cacheOf(t, d, 1, 2)
			for range 3 {
				want(t, call.name, call.do(c), api.ErrNoSpace)
				wantCounts(t, c, 1, 0)
				wantHand(t, c, 2)
			}
			// The bytes 0 find room, and then the page does not.
			if free < 256 {
				wantFile(t, d, 0, body(0))
			} else {
				wantFile(t, d, 1, row(body(0), zeros(256)))
			}
			wantGet(t, c, 2, body(2), api.OK)
			ok(t, d.Load("b", nil))
			ok(t, call.do(c))
			ok(t, c.Flush())
			got, e := d.Read("a", 0, 768)
			if e != api.OK || d.Size("a") != 768 || !bytes.Equal(got, row(body(0), zeros(256), body(2))) {
				t.Fatalf("%s, %d bytes free: %v, error %d", call.name, free, got, e)
			}
		}
	}
}

// P7.5: where the bytes 0 stay and the page did not find room, they are not written again.
func TestFillOnce(t *testing.T) {
	d := diskOf(t, 1000)
	c := cacheOf(t, d, 1, 3)
	want(t, "Evict", c.Evict(1), api.ErrNoSpace)
	wantFile(t, d, 1, zeros(768))
	want(t, "Evict", c.Evict(1), api.ErrNoSpace)
	wantFile(t, d, 1, zeros(768))
	wantHand(t, c, 3)
	ok(t, d.Cut("a", 700))
	want(t, "Flush", c.Flush(), api.ErrNoSpace)
	wantFile(t, d, 3, zeros(768))
}

// Words: room to the last byte is enough, for the bytes 0 and for the page.
func TestRoomToTheLastByte(t *testing.T) {
	for _, no := range []int{0, 1, 2, 3} {
		d := diskOf(t, (no+1)*256)
		c := cacheOf(t, d, 1, no)
		ok(t, c.Flush())
		wantFile(t, d, min(no, 1)+2, row(zeros(no*256), body(no)))
		short := diskOf(t, (no+1)*256-1)
		c = cacheOf(t, short, 1, no)
		want(t, "Flush", c.Flush(), api.ErrNoSpace)
		if no == 0 {
			wantFile(t, short, 0, nil)
		} else {
			wantFile(t, short, 1, zeros(no*256))
		}
		if no > 0 {
			shorter := diskOf(t, no*256-1)
			c = cacheOf(t, shorter, 1, no)
			want(t, "Flush", c.Flush(), api.ErrNoSpace)
			wantFile(t, shorter, 0, nil)
		}
	}
}

// Words: a disk that has more than its room takes no byte 0, but a page that makes nothing longer.
func TestMoreThanTheRoom(t *testing.T) {
	d := loaded(t, 600, zeros(600))
	ok(t, d.Cut("a", 0))
	ok(t, d.Write("b", 0, zeros(600)))
	d.Crash([]int{0, 1})
	c := cacheOf(t, d, 3, 0, 3)
	want(t, "Flush", c.Flush(), api.ErrNoSpace)
	wantFile(t, d, 3, row(body(0), zeros(344)))
	wantHand(t, c, 0, 3)
	wantForget(t, c, 3, true)
	ok(t, c.Flush())
	wantFile(t, d, 4, row(body(0), zeros(344)))
}

// P7.2 to P7.4: the disk's other error, of a file too many, is answered as it is, for the bytes 0 too, if there is no room either.
func TestTooManyFiles(t *testing.T) {
	for _, room := range []int{10000, 300, 0} {
		for _, no := range []int{0, 3, last} {
			d := diskOf(t, room)
			for i := range api.MaxFiles {
				ok(t, d.Load(string(rune('b'+i)), nil))
			}
			c := cacheOf(t, d, 1, no)
			want(t, "Evict", c.Evict(1), api.ErrMany)
			want(t, "Flush", c.Flush(), api.ErrMany)
			want(t, "Put", c.Put(7, body(7)), api.ErrMany)
			wantGet(t, c, no, body(no), api.OK)
			wantCounts(t, c, 1, 0)
			if d.Changes() != 0 || d.Size("a") != -1 {
				t.Fatalf("%d changes, the file has %d bytes", d.Changes(), d.Size("a"))
			}
		}
	}
}

// P7.2, P7.3: what is at hand needs no power, nor does what finds room without a page to be written.
func TestWithoutPower(t *testing.T) {
	d := loaded(t, 10000, row(body(0), body(1), body(2)))
	c := cacheOf(t, d, 3)
	wantGet(t, c, 0, body(0), api.OK)
	ok(t, c.Put(1, body(11)))
	off(t, d)
	wantGet(t, c, 2, nil, api.ErrDown) // there is room
	wantGet(t, c, 9, nil, api.ErrDown)
	wantGet(t, c, 0, body(0), api.OK) // clean
	wantGet(t, c, 1, body(11), api.OK)
	ok(t, c.Put(1, body(21)))
	ok(t, c.Put(5, body(5)))
	wantCounts(t, c, 3, 1)
	wantGet(t, c, 2, nil, api.ErrDown) // there is none
	ok(t, c.Put(6, body(6)))           // page 0 goes, it isn't dirty
	wantHand(t, c, 1, 5, 6)
	want(t, "Put that needs a dirty page's room", c.Put(7, body(7)), api.ErrDown)
	wantHand(t, c, 1, 5, 6)
	ok(t, c.Pin(1))
	ok(t, c.Pin(5))
	ok(t, c.Pin(6))
	want(t, "Put, all pinned", c.Put(7, body(7)), api.ErrFull)
	wantGet(t, c, 2, nil, api.ErrDown)
	ok(t, c.Unpin(5))
	wantForget(t, c, 5, true)
	ok(t, c.Put(8, body(8)))
	wantCounts(t, c, 3, 1)
	d.Crash(nil)
	wantFile(t, d, 0, row(body(0), body(1), body(2)))
	ok(t, c.Flush())
	wantGet(t, c, 1, body(21), api.OK)
	wantFile(t, d, 6, row(body(0), body(21), body(2), zeros(3*256), body(6), zeros(256), body(8))) // three pages, bytes 0 twice, a sync
}

// P7.4: without power an Evict lets go what isn't dirty, up to the first page that is.
func TestEvictWithoutPower(t *testing.T) {
	d := loaded(t, 10000, row(body(0), body(1), body(2), body(3)))
	c := cacheOf(t, d, 4)
	wantGet(t, c, 0, body(0), api.OK)
	wantGet(t, c, 1, body(1), api.OK)
	ok(t, c.Put(2, body(12)))
	wantGet(t, c, 3, body(3), api.OK)
	off(t, d)
	ok(t, c.Evict(0))
	ok(t, c.Evict(1))
	wantHand(t, c, 1, 2, 3)
	want(t, "Evict", c.Evict(3), api.ErrDown)
	wantHand(t, c, 2, 3)
	want(t, "Evict", c.Evict(1), api.ErrDown)
	ok(t, c.Pin(2))
	ok(t, c.Evict(3))
	wantHand(t, c, 2)
	ok(t, c.Evict(3))
	wantGet(t, c, 2, body(12), api.OK)
	d.Crash(nil)
	wantFile(t, d, 0, row(body(0), body(1), body(2), body(3)))
}

// P7.4: Flush is ErrDown, if the power is off: with dirty pages and without, with the file and without.
func TestFlushWithoutPower(t *testing.T) {
	for _, there := range []bool{true, false} {
		for _, pages := range [][]int{nil, {0}, {last}, {2, 1}} {
			d := diskOf(t, 10000)
			if there {
				ok(t, d.Load("a", body(9)))
			}
			c := cacheOf(t, d, 4, pages...)
			off(t, d)
			want(t, "Flush", c.Flush(), api.ErrDown)
			want(t, "Flush", c.Flush(), api.ErrDown)
			wantCounts(t, c, len(pages), 0)
			for _, no := range pages {
				wantGet(t, c, no, body(no), api.OK)
				ok(t, c.Pin(no))
			}
			want(t, "Flush, all pinned", c.Flush(), api.ErrDown)
			if d.Changes() != 0 {
				t.Fatalf("%d changes", d.Changes())
			}
		}
	}
}

// P7.4: Flush writes the dirty pages alone, by rising numbers, and syncs then; whatever change is the one at which the power goes.
func TestFlushOrder(t *testing.T) {
	old := row(body(20), body(21), body(22), body(23), body(24))
	// The changes, each told by the file's bytes behind it; the last one is the sync.
	steps := [][]byte{
		old,
		row(body(20), body(1), body(22), body(23), body(24)),
		row(body(20), body(1), body(22), body(3), body(24)),
		row(body(20), body(1), body(22), body(3), body(4)),
		row(body(20), body(1), body(22), body(3), body(4), zeros(512)),
		row(body(20), body(1), body(22), body(3), body(4), zeros(512), body(7)),
		row(body(20), body(1), body(22), body(3), body(4), zeros(512), body(7), body(8)),
	}
	for n := range len(steps) + 1 {
		d := loaded(t, 10000, old)
		c := cacheOf(t, d, 8, 7, 3, 1)
		wantGet(t, c, 2, body(22), api.OK)
		wantGet(t, c, 0, body(20), api.OK)
		ok(t, c.Put(8, body(8)))
		ok(t, c.Put(4, body(4)))
		ok(t, c.Pin(3))
		ok(t, d.Arm(n))
		if n < len(steps) {
			want(t, "Flush", c.Flush(), api.ErrDown)
		} else {
			ok(t, c.Flush())
			want(t, "another Flush", c.Flush(), api.ErrDown)
		}
		wantHand(t, c, 0, 1, 2, 3, 4, 7, 8)
		wantCounts(t, c, 7, 2)
		if n < len(steps) {
			d.Crash([]int{1})
			wantFile(t, d, n, steps[n])
		} else {
			d.Crash(nil) // all was safe
			wantFile(t, d, n, steps[n-1])
		}
		// What the power has left is written now: the pages that were written are not dirty.
		ok(t, c.Flush())
		wantFile(t, d, max(len(steps), n+1), steps[len(steps)-1])
	}
}

// P7.4: behind a Flush its pages are at hand and aren't dirty; what it wrote is safe.
func TestFlush(t *testing.T) {
	d := diskOf(t, 10000)
	c := cacheOf(t, d, 4, 2, 0, 1)
	ok(t, c.Flush())
	wantFile(t, d, 4, row(body(0), body(1), body(2)))
	wantHand(t, c, 0, 1, 2)
	d.Crash(nil)
	wantFile(t, d, 4, row(body(0), body(1), body(2)))
	ok(t, c.Flush())
	ok(t, c.Flush())
	wantFile(t, d, 6, row(body(0), body(1), body(2))) // two syncs
	ok(t, d.Load("a", zeros(10)))
	ok(t, c.Evict(2))
	wantFile(t, d, 6, zeros(10)) // nothing was dirty
	wantGet(t, c, 1, body(1), api.OK)
	wantCounts(t, c, 1, 0)
}

// P7.4: Flush syncs also what others wrote into the file, and no other file.
func TestFlushSync(t *testing.T) {
	d := diskOf(t, 10000)
	ok(t, d.Write("a", 0, []byte("abc")))
	ok(t, d.Write("b", 0, []byte("def")))
	c := cacheOf(t, d, 1)
	ok(t, c.Flush())
	if d.Changes() != 3 {
		t.Fatalf("%d changes", d.Changes())
	}
	d.Crash(nil)
	if !slices.Equal(d.Names(), []string{"a"}) || d.Size("a") != 3 {
		t.Fatalf("behind a Flush and a loss of power: %q, %d bytes", d.Names(), d.Size("a"))
	}
}

// P7.4: a Flush without a file and without dirty pages is well, and makes none.
func TestFlushOfNoFile(t *testing.T) {
	d := diskOf(t, 10000)
	c := cacheOf(t, d, 1)
	ok(t, c.Flush())
	wantFile(t, d, 0, nil)
	ok(t, c.Put(0, body(0)))
	wantForget(t, c, 0, true)
	ok(t, c.Flush())
	wantFile(t, d, 0, nil)
	ok(t, d.Arm(0)) // it is no change
	ok(t, c.Flush())
	if d.Down() {
		t.Fatal("the power went")
	}
}

// P7.4: the first error ends a Flush: pages of less numbers are written then, the others stay dirty; nothing is synced.
func TestFlushEnds(t *testing.T) {
	d := diskOf(t, 600)
	c := cacheOf(t, d, 4, 3, 2, 1, 0)
	want(t, "Flush", c.Flush(), api.ErrNoSpace)
	wantFile(t, d, 2, row(body(0), body(1)))
	wantHand(t, c, 0, 1, 2, 3)
	for no := range 4 {
		wantGet(t, c, no, body(no), api.OK)
	}
	wantForget(t, c, 3, true)
	want(t, "Flush", c.Flush(), api.ErrNoSpace)
	wantFile(t, d, 2, row(body(0), body(1)))
	d.Crash(nil)
	wantFile(t, d, 2, nil)
	wantForget(t, c, 2, true)
	wantHand(t, c, 0, 1)
}

// P7.2 to P7.4: it is the Oldest that is written when room is made, and no other page.
func TestOnlyTheOldestIsWritten(t *testing.T) {
	d := loaded(t, 10000, row(body(20), body(21), body(22), body(23), body(24)))
	c := cacheOf(t, d, 3, 2, 0, 1)
	wantGet(t, c, 3, body(23), api.OK)
	wantFile(t, d, 1, row(body(20), body(21), body(2), body(23), body(24)))
	ok(t, c.Put(4, body(4)))
	wantFile(t, d, 2, row(body(0), body(21), body(2), body(23), body(24)))
	ok(t, c.Pin(1))
	wantGet(t, c, 0, body(0), api.OK) // page 3 goes, it isn't dirty
	wantFile(t, d, 2, row(body(0), body(21), body(2), body(23), body(24)))
	wantHand(t, c, 0, 1, 4)
	ok(t, c.Evict(1))
	wantFile(t, d, 3, row(body(0), body(21), body(2), body(23), body(4)))
	d.Crash([]int{1, 1, 1, 1, 0, 0, 0, 0, 1, 1, 1, 1}) // room is made without a sync
	wantFile(t, d, 3, row(body(20), body(21), body(2), body(23), body(4)))
}

// P7.1, R6: caches of other files on one disk have nothing in common but its room; those of one file meet in the file alone.
func TestTwoCaches(t *testing.T) {
	d := diskOf(t, 10000)
	a := cacheOf(t, d, 1, 0)
	b, e := cache.New(d, "b", 1)
	ok(t, e)
	ok(t, b.Put(0, body(10)))
	ok(t, b.Pin(0))
	ok(t, a.Flush())
	wantFile(t, d, 2, body(0))
	ok(t, b.Flush())
	ok(t, a.Put(1, body(1)))
	ok(t, a.Evict(1))
	wantGet(t, b, 0, body(10), api.OK)
	wantGet(t, a, 0, body(0), api.OK)
	wantCounts(t, a, 1, 1)
	wantCounts(t, b, 1, 0)

	again := cacheOf(t, d, 2)
	wantGet(t, again, 0, body(0), api.OK)
	ok(t, again.Put(0, body(30)))
	wantGet(t, a, 0, body(0), api.OK)
	ok(t, again.Flush())
	wantGet(t, a, 0, body(0), api.OK)
	ok(t, a.Evict(1))
	wantGet(t, a, 0, body(30), api.OK)
	ok(t, again.Put(5, body(5))) // the file is made longer by one of them: the other one has no bytes 0 to lay
	ok(t, a.Put(3, body(3)))
	ok(t, again.Flush())
	changes := d.Changes()
	ok(t, a.Evict(1))
	wantFile(t, d, changes+1, row(body(30), body(1), zeros(256), body(3), zeros(256), body(5)))
}
