package cache_test

import (
	"bytes"
	"math/rand"
	"slices"
	"testing"

	"octavo/api"
	"octavo/cache"
	"octavo/disk"
)

// entry is a page of the model that is at hand.
type entry struct {
	no, pins int
	bytes    []byte
	dirty    bool
}

// far is the bytes 0 ahead of the last page. They are made but once, as nothing writes them.
var far = make([]byte, last*256)

// model is the chapter's words done on a plain list, the page that was used longest ago first, over a disk of its own.
type model struct {
	disk     *disk.Disk
	name     string
	capacity int
	list     []entry
	reads    int
}

func (m *model) at(no int) int {
	return slices.IndexFunc(m.list, func(x entry) bool { return x.no == no })
}

func (m *model) out(at int) entry {
	x := m.list[at]
	m.list = slices.Delete(m.list, at, at+1)
	return x
}

func (m *model) write(x *entry) api.Errno {
	if !x.dirty {
		return api.OK
	}
	if m.disk.Down() {
		return api.ErrDown
	}
	size := max(m.disk.Size(m.name), 0)
	if size < x.no*256 {
		if e := m.disk.Write(m.name, size, far[:x.no*256-size]); e != api.OK {
			return e
		}
	}
	if e := m.disk.Write(m.name, x.no*256, x.bytes); e != api.OK {
		return e
	}
	x.dirty = false
	return api.OK
}

// letGo lets the page go that was used longest ago and isn't pinned; false: there is none.
func (m *model) letGo() (bool, api.Errno) {
	at := slices.IndexFunc(m.list, func(x entry) bool { return x.pins == 0 })
	if at < 0 {
		return false, api.OK
	}
	if e := m.write(&m.list[at]); e != api.OK {
		return true, e
	}
	m.out(at)
	return true, api.OK
}

func (m *model) room() api.Errno {
	if len(m.list) < m.capacity {
		return api.OK
	}
	had, e := m.letGo()
	if !had {
		return api.ErrFull
	}
	return e
}

func (m *model) get(no int) ([]byte, api.Errno) {
	if no < 0 || no >= 1<<20 {
		return nil, api.ErrArg
	}
	if at := m.at(no); at >= 0 {
		m.list = append(m.list, m.out(at))
		return m.list[len(m.list)-1].bytes, api.OK
	}
	if m.disk.Down() {
		return nil, api.ErrDown
	}
	if m.disk.Size(m.name) < no*256+256 {
		return nil, api.ErrNone
	}
	if e := m.room(); e != api.OK {
		return nil, e
	}
	b, e := m.disk.Read(m.name, no*256, 256)
	if e != api.OK {
		return nil, e
	}
	m.list = append(m.list, entry{no: no, bytes: b})
	m.reads++
	return b, api.OK
}

func (m *model) put(no int, b []byte) api.Errno {
	if no < 0 || no >= 1<<20 || len(b) != 256 {
		return api.ErrArg
	}
	x := entry{no: no}
	if at := m.at(no); at >= 0 {
		x = m.out(at)
	} else if e := m.room(); e != api.OK {
		return e
	}
	x.bytes, x.dirty = bytes.Clone(b), true
	m.list = append(m.list, x)
	return api.OK
}

func (m *model) flush() api.Errno {
	var numbers []int
	for _, x := range m.list {
		numbers = append(numbers, x.no)
	}
	slices.Sort(numbers)
	for _, no := range numbers {
		if e := m.write(&m.list[m.at(no)]); e != api.OK {
			return e
		}
	}
	if m.disk.Down() {
		return api.ErrDown
	}
	if m.disk.Size(m.name) < 0 {
		return api.OK
	}
	return m.disk.Sync(m.name)
}

func (m *model) evict(n int) api.Errno {
	for i := 0; i < n; i++ {
		had, e := m.letGo()
		if !had || e != api.OK {
			return e
		}
	}
	return api.OK
}

// pinBy counts more pins of a page that is at hand, or takes one back of a page that is pinned.
func (m *model) pinBy(no, by int) api.Errno {
	at := m.at(no)
	if at < 0 || m.list[at].pins+by < 0 {
		return api.ErrNone
	}
	m.list[at].pins += by
	return api.OK
}

func (m *model) forget(no int) bool {
	at := m.at(no)
	if at < 0 || m.list[at].pins > 0 {
		return false
	}
	m.out(at)
	return true
}

// The calls that are made of a cache, and what is done to its disk beside it.
const (
	get = iota
	put
	pin
	unpin
	evict
	forget
	flush
	cacheCalls
	arm   = iota - 1 // n more changes are made
	crash            // the bits of n are the picks
	load             // the file has n bytes
	cut              // the file has n bytes at most
	other            // another file has n bytes
)

// call is one of them; fill is what a Put puts.
type call struct{ what, n, fill int }

// answer is what a call says.
type answer struct {
	bytes string
	ok    bool
	e     api.Errno
}

func (m *model) do(c call) answer {
	switch c.what {
	case get:
		b, e := m.get(c.n)
		return answer{bytes: string(b), e: e}
	case put:
		return answer{e: m.put(c.n, filling(c.fill))}
	case pin:
		return answer{e: m.pinBy(c.n, 1)}
	case unpin:
		return answer{e: m.pinBy(c.n, -1)}
	case evict:
		return answer{e: m.evict(c.n)}
	case forget:
		return answer{ok: m.forget(c.n)}
	case flush:
		return answer{e: m.flush()}
	}
	return answer{e: doBeside(m.disk, m.name, c)}
}

func do(c *cache.Cache, d *disk.Disk, name string, x call) answer {
	switch x.what {
	case get:
		b, e := c.Get(x.n)
		defer clear(b[:cap(b)]) // the caller's own
		return answer{bytes: string(b), e: e}
	case put:
		b := filling(x.fill)
		defer clear(b)
		return answer{e: c.Put(x.n, b)}
	case pin:
		return answer{e: c.Pin(x.n)}
	case unpin:
		return answer{e: c.Unpin(x.n)}
	case evict:
		return answer{e: c.Evict(x.n)}
	case forget:
		return answer{ok: c.Forget(x.n)}
	case flush:
		return answer{e: c.Flush()}
	}
	return answer{e: doBeside(d, name, x)}
}

// filling answers what a Put puts: a page's bytes, or some of another length.
func filling(fill int) []byte {
	if fill < 0 {
		return zeros(256 + fill)
	}
	return body(fill)
}

// doBeside does what is no call of a cache.
func doBeside(d *disk.Disk, name string, x call) api.Errno {
	switch x.what {
	case arm:
		return d.Arm(x.n)
	case crash:
		d.Crash(bits(x.n))
		return api.OK
	case load:
		return d.Load(name, bytes.Repeat([]byte{byte(x.n), 5}, x.n/2))
	case cut:
		return d.Cut(name, min(x.n, max(d.Size(name), 0)))
	}
	return d.Load("other", zeros(x.n))
}

// bits answers eight picks.
func bits(n int) []int {
	var picks []int
	for i := range 8 {
		picks = append(picks, n>>i&1)
	}
	return picks
}

// pair is a cache and its model, each over a disk of its own that had the same done to it.
type pair struct {
	*cache.Cache
	model *model
	disk  *disk.Disk
}

// pairOf answers a pair over disks with so much room, in which the first pages of the file are safe (fewer than none: it isn't there).
func pairOf(t *testing.T, room, capacity, pages int) *pair {
	t.Helper()
	p := &pair{disk: diskOf(t, room)}
	p.model = &model{disk: diskOf(t, room), name: "a", capacity: capacity}
	if pages >= 0 {
		var b []byte
		for no := range pages {
			b = append(b, body(100+no)...)
		}
		ok(t, p.disk.Load("a", b))
		ok(t, p.model.disk.Load("a", b))
	}
	p.Cache = cacheOf(t, p.disk, capacity)
	return p
}

// beside answers another pair over the same disks.
func (p *pair) beside(t *testing.T, name string, capacity int) *pair {
	t.Helper()
	c, e := cache.New(p.disk, name, capacity)
	ok(t, e)
	return &pair{Cache: c, model: &model{disk: p.model.disk, name: name, capacity: capacity}, disk: p.disk}
}

// wantSame does a call on both and holds all that can be told of them against each other.
func (p *pair) wantSame(t *testing.T, x call, told any) {
	t.Helper()
	want, got := p.model.do(x), do(p.Cache, p.disk, p.model.name, x)
	if got != want {
		t.Fatalf("%v: %v answered error %d, %v, %q; want error %d, %v, %q", told, x, got.e, got.ok, got.bytes, want.e, want.ok, want.bytes)
	}
	if p.Resident() != len(p.model.list) || p.Reads() != p.model.reads || p.Resident() > p.model.capacity {
		t.Fatalf("%v, behind %v: %d at hand, %d read; want %d, %d", told, x, p.Resident(), p.Reads(), len(p.model.list), p.model.reads)
	}
	for _, e := range p.model.list {
		if !atHand(p.Cache, e.no) {
			t.Fatalf("%v, behind %v: page %d isn't at hand", told, x, e.no)
		}
	}
	wantSameDisks(t, p.disk, p.model.disk, told, x)
}

// wantSameDisks holds all that disks tell against each other.
func wantSameDisks(t *testing.T, d, m *disk.Disk, told, x any) {
	t.Helper()
	if d.Changes() != m.Changes() || d.Down() != m.Down() || d.Free() != m.Free() || !slices.Equal(d.Names(), m.Names()) {
		t.Fatalf("%v, behind %v: %d changes, down %v, %d free, %q; want %d, %v, %d, %q", told, x,
			d.Changes(), d.Down(), d.Free(), d.Names(), m.Changes(), m.Down(), m.Free(), m.Names())
	}
	for _, name := range m.Names() {
		got, e := d.Read(name, 0, d.Size(name))
		want, me := m.Read(name, 0, m.Size(name))
		if e != me || !bytes.Equal(got, want) {
			t.Fatalf("%v, behind %v: %q has %v, want %v", told, x, name, got, want)
		}
	}
}

// wantSameEnd holds the pins against each other, what is pending, and what is dirty.
func (p *pair) wantSameEnd(t *testing.T, told any) {
	t.Helper()
	for _, e := range slices.Clone(p.model.list) {
		for p.model.list[p.model.at(e.no)].pins > 0 {
			p.wantSame(t, call{what: unpin, n: e.no}, told)
		}
		p.wantSame(t, call{what: unpin, n: e.no}, told)
	}
	p.wantSame(t, call{what: crash, n: 0b10110101}, told)
	p.wantSame(t, call{what: other, n: 0}, told)
	p.wantSame(t, call{what: flush}, told)
	for _, e := range slices.Clone(p.model.list) {
		p.wantSame(t, call{what: get, n: e.no}, told)
	}
	p.wantSame(t, call{what: crash}, told)
}

// smallCalls are calls on three pages, of which the second is at hand and pinned, and what may be done to the disk.
func smallCalls() []call {
	var all []call
	for no := range 3 {
		all = append(all, call{what: get, n: no}, call{what: put, n: no, fill: 10 + no}, call{what: forget, n: no})
	}
	return append(all, call{what: pin, n: 0}, call{what: unpin, n: 1}, call{what: evict, n: 1}, call{what: evict, n: 2},
		call{what: flush}, call{what: arm, n: 0}, call{what: arm, n: 1}, call{what: crash, n: 0b01010101}, call{what: other, n: 256}, call{what: load, n: 300})
}

// P7.2 to P7.5: all runs of up to three calls, for capacities of one to three, with a file that has one page, and room for two more or none.
func TestAllRuns(t *testing.T) {
	each := smallCalls()
	for capacity := 1; capacity <= 3; capacity++ {
		for _, room := range []int{256, 768} {
			for length := 1; length <= 3; length++ {
				forRuns(each, make([]call, 0, length), func(run []call) { wantRun(t, capacity, room, run) })
			}
		}
	}
}

// forRuns fills the run up to its capacity, in all ways.
func forRuns(each, run []call, f func([]call)) {
	if len(run) == cap(run) {
		f(run)
		return
	}
	for _, c := range each {
		forRuns(each, append(run, c), f)
	}
}

func wantRun(t *testing.T, capacity, room int, run []call) {
	t.Helper()
	p := pairOf(t, room, capacity, 1)
	told := []any{capacity, room, run}
	for _, c := range []call{{what: get, n: 0}, {what: put, n: 1, fill: 1}, {what: pin, n: 1}} {
		p.wantSame(t, c, told)
	}
	for _, c := range run {
		p.wantSame(t, c, told)
	}
	p.wantSameEnd(t, told)
}

// script is what a random run is made of.
type script struct {
	room, capacity, pages int
	numbers               []int
	weights               []int // how often each call is made
	length                int
}

func randomScript(random *rand.Rand, kinds int) script {
	s := script{capacity: 1 + random.Intn(7), pages: random.Intn(6) - 1, length: 1 + random.Intn(120)}
	s.room = max(s.pages, 0)*256 + random.Intn(4000)
	for range 1 + random.Intn(3*s.capacity) {
		s.numbers = append(s.numbers, random.Intn(12))
	}
	if random.Intn(4) == 0 {
		s.numbers = append(s.numbers, []int{-1, last, api.MaxPages, least, greatest, 1 << 32}[random.Intn(6)])
	}
	for what := range kinds {
		w := 2 + random.Intn(8)
		if what > put {
			w = random.Intn(4)
		}
		s.weights = append(s.weights, w)
	}
	return s
}

// calls answers the script's calls, chosen by its weights.
func (s script) calls(random *rand.Rand) []call {
	var whats []int
	for what, w := range s.weights {
		for range w {
			whats = append(whats, what)
		}
	}
	run := make([]call, s.length)
	for i := range run {
		c := call{what: whats[random.Intn(len(whats))], n: s.numbers[random.Intn(len(s.numbers))], fill: random.Intn(250)}
		switch c.what {
		case put:
			if random.Intn(20) == 0 {
				c.fill = -1 - random.Intn(3)
			}
		case evict:
			c.n = random.Intn(s.capacity+2) - 1
		case arm:
			c.n = random.Intn(6)
		case crash:
			c.n = random.Intn(256)
		case load, cut, other:
			c.n = random.Intn(s.room + 300)
		}
		run[i] = c
	}
	return run
}

// P7.2 to P7.5, R5: random runs of any calls, with whatever is done to the disk beside the cache, held against the model behind each call.
func TestRandomRuns(t *testing.T) {
	random := rand.New(rand.NewSource(7))
	for n := range 4000 {
		s := randomScript(random, other+1)
		p := pairOf(t, s.room, s.capacity, s.pages)
		for i, c := range s.calls(random) {
			p.wantSame(t, c, []int{n, i})
		}
		p.wantSameEnd(t, n)
	}
}

// P7.5: the power goes at each change of a run of a cache's calls, comes back some calls later, and all goes on.
func TestPowerAtAnyChange(t *testing.T) {
	random := rand.New(rand.NewSource(8))
	for n := range 60 {
		s := randomScript(random, cacheCalls)
		run := s.calls(random)
		whole := pairOf(t, s.room, s.capacity, s.pages)
		for i, c := range run {
			whole.wantSame(t, c, []int{n, i})
		}
		for change := range whole.disk.Changes() {
			wantPowerGone(t, s, run, change, call{what: crash, n: random.Intn(256)}, random.Intn(5))
		}
	}
}

// wantPowerGone has the power go at a change of the run, and come back so many calls behind the one that was refused.
func wantPowerGone(t *testing.T, s script, run []call, change int, back call, later int) {
	t.Helper()
	p := pairOf(t, s.room, s.capacity, s.pages)
	told := []any{s, change}
	p.wantSame(t, call{what: arm, n: change}, told)
	for _, c := range run {
		p.wantSame(t, c, told)
		if !p.disk.Down() {
			continue
		}
		if later == 0 {
			p.wantSame(t, back, told)
		}
		later--
	}
	p.wantSameEnd(t, told)
}

// P7.1, R6: three caches on one disk, two of them of one file, called in turns.
func TestCachesInTurns(t *testing.T) {
	random := rand.New(rand.NewSource(9))
	for n := range 500 {
		s := randomScript(random, other+1)
		one := pairOf(t, s.room, s.capacity, s.pages)
		all := []*pair{one, one.beside(t, "a", 1+random.Intn(4)), one.beside(t, "other", 1+random.Intn(4))}
		for i, c := range s.calls(random) {
			all[random.Intn(len(all))].wantSame(t, c, []int{n, i})
		}
		for _, p := range all {
			p.wantSameEnd(t, n)
		}
	}
}

// P7.5: as long as nobody else touches the disk, a page that was put last with some bytes is answered with these, whichever calls were refused since.
func TestNothingIsLost(t *testing.T) {
	random := rand.New(rand.NewSource(10))
	refused := 0
	for n := range 1000 {
		d := diskOf(t, 3000+random.Intn(3000))
		ok(t, d.Load("b", zeros(3000)))
		c := cacheOf(t, d, 1+random.Intn(5))
		put := map[int][]byte{}
		for range 200 {
			no, b := random.Intn(9), body(random.Intn(250))
			switch random.Intn(6) {
			case 0, 1, 2:
				if e := c.Put(no, b); e == api.OK {
					put[no] = b
				} else {
					refused++
				}
			case 3:
				got, e := c.Get(no)
				if e == api.OK && !bytes.Equal(got, put[no]) && !(put[no] == nil && bytes.Equal(got, zeros(256))) {
					t.Fatalf("run %d: page %d: %v, want %v", n, no, got, put[no])
				}
			case 4:
				c.Evict(random.Intn(3))
			case 5:
				c.Flush()
			}
		}
		ok(t, d.Load("b", nil))
		ok(t, c.Flush())
		for no, b := range put {
			wantGet(t, c, no, b, api.OK)
			if got, e := d.Read("a", no*256, 256); e != api.OK || !bytes.Equal(got, b) {
				t.Fatalf("run %d: the file's page %d: %v, error %d, want %v", n, no, got, e, b)
			}
		}
	}
	if refused < 1000 {
		t.Fatalf("%d Puts were refused", refused)
	}
}

// P7.2 to P7.4: a long run on a cache of the greatest capacity.
func TestGreatCache(t *testing.T) {
	random := rand.New(rand.NewSource(11))
	const pages, capacity = 5000, 4096
	d := diskOf(t, pages*256)
	c := cacheOf(t, d, capacity)
	latest := make([]int, pages)
	for no := range pages {
		latest[no] = no
		ok(t, c.Put(no, body(no)))
	}
	wantCounts(t, c, capacity, 0)
	for i := range 20000 {
		no := random.Intn(pages)
		if i%3 == 0 {
			latest[no] = i
			ok(t, c.Put(no, body(i)))
		} else {
			wantGet(t, c, no, body(latest[no]), api.OK)
		}
	}
	if c.Resident() != capacity || c.Reads() < 1000 {
		t.Fatalf("%d at hand, %d read", c.Resident(), c.Reads())
	}
	ok(t, c.Flush())
	d.Crash(nil)
	for no := range pages {
		if b, e := d.Read("a", no*256, 256); e != api.OK || !bytes.Equal(b, body(latest[no])) {
			t.Fatalf("page %d: %v, error %d", no, b, e)
		}
	}
}
