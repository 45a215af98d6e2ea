package disk_test

import (
	"bytes"
	"maps"
	"math/rand"
	"slices"
	"testing"

	"octavo/api"
	"octavo/disk"
)

// text is a file's bytes by their places: those that stand nowhere are 0.
type text struct {
	size int
	at   map[int]byte
}

func newText() *text { return &text{at: map[int]byte{}} }

func (x *text) put(at int, c byte) {
	x.at[at] = c
	x.size = max(x.size, at+1)
}

func (x *text) cut(n int) {
	for i := n; i < x.size; i++ {
		delete(x.at, i)
	}
	x.size = min(x.size, n)
}

func (x *text) copy() *text { return &text{x.size, maps.Clone(x.at)} }

func (x *text) bytes() []byte {
	b := make([]byte, x.size)
	for i := range b {
		b[i] = x.at[i]
	}
	return b
}

// deed is a Write or a Cut that wasn't synced.
type deed struct {
	name string
	cut  bool
	at   int
	b    []byte
}

// model is the chapter's words, done a byte at a time: it keeps deeds as they were called, and parts them no sooner than at a crash.
type model struct {
	room    int
	now     map[string]*text
	safe    map[string]*text // without those that have never been safe
	deeds   []deed
	changes int
	fuse    int // changes yet to be made, below 0: not armed
	down    bool
}

func newModel(room int) *model {
	return &model{room: room, now: map[string]*text{}, safe: map[string]*text{}, fuse: -1}
}

func (m *model) used() int {
	n := 0
	for _, x := range m.now {
		n += x.size
	}
	return n
}

func (m *model) size(name string) int {
	if x, ok := m.now[name]; ok && !m.down {
		return x.size
	}
	return -1
}

// wrong answers the first error that holds of a call, in the order of P4.2: of a load the power isn't asked for. size is how many bytes the file would have, -1 where it grows by none.
func (m *model) wrong(name string, load, must, inside bool, size int) api.Errno {
	x, there := m.now[name]
	old := 0
	if there {
		old = x.size
	}
	all := m.used() - old + size
	switch {
	case !nameOK(name):
		return api.ErrArg
	case m.down && !load:
		return api.ErrDown
	case must && !there:
		return api.ErrNone
	case !inside:
		return api.ErrRange
	case size >= 0 && !there && len(m.now) == 16:
		return api.ErrMany
	case size >= 0 && all > m.room && all > m.used():
		return api.ErrNoSpace
	}
	return api.OK
}

func nameOK(name string) bool {
	for _, c := range []byte(name) {
		if !bytes.Contains([]byte("abcdefghijklmnopqrstuvwxyz"), []byte{c}) {
			return false
		}
	}
	return len(name) >= 1 && len(name) <= 16
}

// spend makes a change, or has the power go.
func (m *model) spend() api.Errno {
	if m.fuse == 0 {
		m.down = true
		return api.ErrDown
	}
	m.fuse--
	m.changes++
	return api.OK
}

func (m *model) load(name string, b []byte) api.Errno {
	if e := m.wrong(name, true, false, true, len(b)); e != api.OK {
		return e
	}
	x := newText()
	for i, c := range b {
		x.put(i, c)
	}
	m.now[name], m.safe[name] = x, x.copy()
	m.forget(name)
	return api.OK
}

func (m *model) write(name string, at int, b []byte) api.Errno {
	size := 0
	if x, ok := m.now[name]; ok {
		size = x.size
	}
	inside := at >= 0 && at <= size
	if len(b) == 0 {
		return m.wrong(name, false, false, inside, -1)
	}
	if inside {
		size = max(size, at+len(b))
	}
	if e := m.wrong(name, false, false, inside, size); e != api.OK {
		return e
	}
	if e := m.spend(); e != api.OK {
		return e
	}
	if m.now[name] == nil {
		m.now[name] = newText()
	}
	for i, c := range b {
		m.now[name].put(at+i, c)
	}
	m.deeds = append(m.deeds, deed{name: name, at: at, b: bytes.Clone(b)})
	return api.OK
}

func (m *model) cut(name string, n int) api.Errno {
	x, ok := m.now[name]
	if e := m.wrong(name, false, true, ok && n >= 0 && n <= x.size, -1); e != api.OK {
		return e
	}
	if e := m.spend(); e != api.OK {
		return e
	}
	x.cut(n)
	m.deeds = append(m.deeds, deed{name: name, cut: true, at: n})
	return api.OK
}

func (m *model) sync(name string) api.Errno {
	if e := m.wrong(name, false, true, true, -1); e != api.OK {
		return e
	}
	if e := m.spend(); e != api.OK {
		return e
	}
	m.safe[name] = m.now[name].copy()
	m.forget(name)
	return api.OK
}

func (m *model) read(name string, at, n int) ([]byte, api.Errno) {
	x, ok := m.now[name]
	if e := m.wrong(name, false, true, ok && at >= 0 && n >= 0 && at <= x.size && n <= x.size-at, -1); e != api.OK {
		return nil, e
	}
	return x.bytes()[at : at+n], api.OK
}

func (m *model) names() []string {
	if m.down {
		return nil
	}
	return slices.Sorted(maps.Keys(m.now))
}

func (m *model) forget(name string) {
	m.deeds = slices.DeleteFunc(m.deeds, func(d deed) bool { return d.name == name })
}

// pieces answers how many pieces are pending.
func (m *model) pieces() int {
	n := 0
	for _, d := range m.deeds {
		if d.cut {
			n++
			continue
		}
		n += (d.at+len(d.b)-1)/64 - d.at/64 + 1
	}
	return n
}

func (m *model) crash(picks []int) {
	piece := -1
	kept := func() bool { return len(picks) > 0 && picks[piece%len(picks)]&1 == 1 }
	for _, d := range m.deeds {
		x := m.safe[d.name]
		if d.cut {
			if piece++; kept() && x != nil {
				x.cut(d.at)
			}
			continue
		}
		for i, c := range d.b {
			if i == 0 || (d.at+i)%64 == 0 {
				piece++
			}
			if !kept() {
				continue
			}
			if x == nil {
				x = newText()
				m.safe[d.name] = x
			}
			x.put(d.at+i, c)
		}
	}
	clear(m.now)
	for name, x := range m.safe {
		m.now[name] = x.copy()
	}
	m.deeds, m.fuse, m.down = nil, -1, false
}

// both is a disk, and the model that is held against it at each call.
type both struct {
	t *testing.T
	d *disk.Disk
	m *model
}

func newBoth(t *testing.T, room int) both { return both{t, made(t, room), newModel(room)} }

func (b both) same(call string, got, want api.Errno) {
	b.t.Helper()
	if got != want {
		b.t.Fatalf("%s: %d, want %d", call, got, want)
	}
	b.sameFiles(call)
}

// sameFiles holds all that the disk shows against the model.
func (b both) sameFiles(call string) {
	b.t.Helper()
	if got, want := b.d.Names(), b.m.names(); !slices.Equal(got, want) {
		b.t.Fatalf("%s: names %q, want %q", call, got, want)
	}
	for name, x := range b.m.now {
		if got, want := b.d.Size(name), b.m.size(name); got != want {
			b.t.Fatalf("%s: size of %s %d, want %d", call, name, got, want)
		}
		if b.m.down {
			continue
		}
		got, e := b.d.Read(name, 0, x.size)
		if e != api.OK || !bytes.Equal(got, x.bytes()) {
			b.t.Fatalf("%s: %s has %v %d, want %v", call, name, got, e, x.bytes())
		}
	}
	if got, want := b.d.Free(), max(b.m.room-b.m.used(), 0); got != want {
		b.t.Fatalf("%s: free %d, want %d", call, got, want)
	}
	if b.d.Changes() != b.m.changes || b.d.Down() != b.m.down {
		b.t.Fatalf("%s: %d changes, down %v, want %d, %v", call, b.d.Changes(), b.d.Down(), b.m.changes, b.m.down)
	}
}

func (b both) load(name string, text []byte) {
	b.t.Helper()
	b.same("Load", b.d.Load(name, text), b.m.load(name, text))
}

func (b both) write(name string, at int, text []byte) {
	b.t.Helper()
	b.same("Write", b.d.Write(name, at, text), b.m.write(name, at, text))
}

func (b both) cut(name string, n int) {
	b.t.Helper()
	b.same("Cut", b.d.Cut(name, n), b.m.cut(name, n))
}

func (b both) sync(name string) {
	b.t.Helper()
	b.same("Sync", b.d.Sync(name), b.m.sync(name))
}

func (b both) read(name string, at, n int) {
	b.t.Helper()
	got, e := b.d.Read(name, at, n)
	want, wantE := b.m.read(name, at, n)
	if !bytes.Equal(got, want) {
		b.t.Fatalf("Read(%s, %d, %d): %v, want %v", name, at, n, got, want)
	}
	b.same("Read", e, wantE)
}

func (b both) arm(n int) {
	b.t.Helper()
	if e := b.d.Arm(n); e != api.OK {
		b.t.Fatalf("Arm(%d): %d", n, e)
	}
	b.m.fuse = n
	b.sameFiles("Arm")
}

func (b both) crash(picks ...int) {
	b.t.Helper()
	b.d.Crash(picks)
	b.m.crash(picks)
	b.sameFiles("Crash")
}

// step does one call that the dice choose, mostly with arguments that fit.
func (b both) step(r *rand.Rand) {
	names := []string{"a", "b", "c", "tail", "sixteenlettersaa", "", "seventeenletters.", "B"}
	name := names[min(r.Intn(20)*r.Intn(20)/40, len(names)-1)]
	if r.Intn(8) == 0 {
		name = string(rune('a' + r.Intn(20)))
	}
	size := max(b.m.size(name), 0)
	at := r.Intn(size + 1)
	if r.Intn(4) == 0 {
		at = size
	}
	if r.Intn(12) == 0 {
		at = []int{-1, size + 1, least, greatest}[r.Intn(4)]
	}
	n := r.Intn(10)
	if r.Intn(3) == 0 {
		n = r.Intn(200)
	}
	switch r.Intn(20) {
	case 0:
		b.load(name, some(r, n))
	case 1, 2, 3, 4, 5, 6, 7, 8:
		b.write(name, at, some(r, n))
	case 9, 10, 11:
		b.cut(name, at)
	case 12, 13:
		b.sync(name)
	case 14, 15:
		b.read(name, at, n)
	case 16:
		b.arm(r.Intn(6))
	case 17, 18, 19:
		if r.Intn(3) == 0 || b.d.Down() {
			b.crash(dice(r)...)
		}
	}
}

// some answers n bytes, none of them 0: where 0 is put in between, it is to be told.
func some(r *rand.Rand, n int) []byte {
	b := make([]byte, n)
	for i := range b {
		b[i] = byte(1 + r.Intn(255))
	}
	return b
}

func dice(r *rand.Rand) []int {
	picks := make([]int, r.Intn(9))
	for i := range picks {
		picks[i] = r.Intn(9) - 4
	}
	return picks
}

// P4.1 to P4.5, R5 and R6: scripts by dice, each call of which is answered, and leaves behind, what the model has.
func TestScripts(t *testing.T) {
	for seed := range 3000 {
		r := rand.New(rand.NewSource(int64(seed)))
		rooms := []int{0, 10, 150, 400, 2000, api.MaxRoom}
		b := newBoth(t, rooms[r.Intn(len(rooms))])
		for range 60 {
			b.step(r)
		}
	}
}
