package lru_test

import (
	"math"
	"math/rand"
	"slices"
	"testing"

	"octavo/api"
	"octavo/lru"
)

// entry is a key of the model, with what is to be known of it.
type entry struct {
	key, pins int
	marked    bool
}

// model is the chapter's words done on a plain list, the key that was used longest ago first.
type model struct {
	capacity int
	list     []entry
}

func (m *model) at(key int) int {
	return slices.IndexFunc(m.list, func(x entry) bool { return x.key == key })
}

// out takes an entry from its place.
func (m *model) out(at int) entry {
	x := m.list[at]
	m.list = slices.Delete(m.list, at, at+1)
	return x
}

func (m *model) oldest() int {
	return slices.IndexFunc(m.list, func(x entry) bool { return x.pins == 0 })
}

func (m *model) add(key int) answer {
	if m.at(key) >= 0 {
		return answer{e: api.ErrArg}
	}
	var a answer
	if len(m.list) == m.capacity {
		at := m.oldest()
		if at < 0 {
			return answer{e: api.ErrFull}
		}
		a = answer{key: m.out(at).key, ok: true}
	}
	m.list = append(m.list, entry{key: key})
	return a
}

// The calls that change a list.
const (
	use = iota
	add
	drop
	pin
	unpin
	mark
	unmark
	calls
)

// call is one of them on a key.
type call struct{ what, key int }

// answer is what a call says.
type answer struct {
	key int
	ok  bool
	e   api.Errno
}

func (m *model) do(c call) answer {
	if c.what == add {
		return m.add(c.key)
	}
	at := m.at(c.key)
	if at < 0 {
		return answer{}
	}
	x := &m.list[at]
	switch c.what {
	case use:
		used := m.out(at)
		m.list = append(m.list, used)
	case drop:
		if x.pins > 0 {
			return answer{}
		}
		m.out(at)
	case pin:
		x.pins++
	case unpin:
		if x.pins == 0 {
			return answer{}
		}
		x.pins--
	case mark, unmark:
		x.marked = c.what == mark
	}
	return answer{ok: true}
}

func do(l *lru.Lru, c call) answer {
	switch c.what {
	case use:
		return answer{ok: l.Use(c.key)}
	case add:
		key, had, e := l.Add(c.key)
		return answer{key, had, e}
	case drop:
		return answer{ok: l.Drop(c.key)}
	case pin:
		return answer{ok: l.Pin(c.key)}
	case unpin:
		return answer{ok: l.Unpin(c.key)}
	}
	return answer{ok: l.Mark(c.key, c.what == mark)}
}

// wantAs holds all that a list tells against the model.
func wantAs(t *testing.T, l *lru.Lru, m *model, keys []int, told any) {
	t.Helper()
	var all, marked []int
	for _, x := range m.list {
		all = append(all, x.key)
		if x.marked {
			marked = append(marked, x.key)
		}
	}
	slices.Sort(marked)
	if got := l.Keys(); !slices.Equal(got, all) || len(got) > m.capacity {
		t.Fatalf("behind %v: Keys: %v; want %v", told, got, all)
	}
	if got := l.Marked(); !slices.Equal(got, marked) {
		t.Fatalf("behind %v: Marked: %v; want %v", told, got, marked)
	}
	var o answer
	if at := m.oldest(); at >= 0 {
		o = answer{key: m.list[at].key, ok: true}
	}
	if k, ok := l.Oldest(); k != o.key || ok != o.ok {
		t.Fatalf("behind %v: Oldest: %d, %v; want %d, %v", told, k, ok, o.key, o.ok)
	}
	for _, k := range keys {
		if got := l.Has(k); got != (m.at(k) >= 0) {
			t.Fatalf("behind %v: Has(%d): %v", told, k, got)
		}
	}
}

// wantPins takes all pins back, and counts them.
func wantPins(t *testing.T, l *lru.Lru, m *model, told any) {
	t.Helper()
	for _, x := range m.list {
		n := 0
		for n <= x.pins && l.Unpin(x.key) {
			n++
		}
		if n != x.pins {
			t.Fatalf("behind %v: %d was pinned %d times; want %d", told, x.key, n, x.pins)
		}
	}
}

// P6.2, P6.3: all runs of up to four calls on three keys, for capacities of one to three.
func TestAllRuns(t *testing.T) {
	keys := []int{2, 0, 1}
	var each []call
	for what := range calls {
		for _, k := range keys {
			each = append(each, call{what, k})
		}
	}
	for capacity := 1; capacity <= 3; capacity++ {
		for length := 1; length <= 4; length++ {
			forRuns(each, make([]call, 0, length), func(run []call) { wantRun(t, capacity, run, keys) })
		}
	}
}

// forRuns fills the run up to its capacity, in all ways.
func forRuns(each, run []call, f func([]call)) {
	if len(run) == cap(run) {
		f(run)
		return
	}
	for _, c := range each {
		forRuns(each, append(run, c), f)
	}
}

// wantRun does a run on a new list that has two of the keys, if there is room, one of them pinned and one marked.
func wantRun(t *testing.T, capacity int, run []call, keys []int) {
	t.Helper()
	l, m := newOf(t, capacity), &model{capacity: capacity}
	for _, c := range []call{{add, keys[0]}, {add, keys[1]}, {pin, keys[1]}, {mark, keys[0]}} {
		do(l, c)
		m.do(c)
	}
	for _, c := range run {
		if got, want := do(l, c), m.do(c); got != want {
			t.Fatalf("capacity %d, %v: %v answered %v; want %v", capacity, run, c, got, want)
		}
	}
	wantAs(t, l, m, keys, run)
	wantPins(t, l, m, run)
}

// script is what a random run is made of.
type script struct {
	capacity int
	keys     []int
	weights  []int // how often each call is made
	length   int
}

func randomScript(random *rand.Rand) script {
	s := script{capacity: 1 + random.Intn(9), length: 1 + random.Intn(400)}
	for range 1 + random.Intn(3*s.capacity) {
		k := random.Intn(100) - 50
		switch random.Intn(8) {
		case 0:
			k = int(random.Uint64())
		case 1:
			k += math.MinInt + 50
		case 2:
			k += math.MaxInt - 50
		}
		s.keys = append(s.keys, k)
	}
	for range calls {
		s.weights = append(s.weights, random.Intn(4))
	}
	s.weights[add] += 3
	return s
}

// calls answers the script's calls, chosen by its weights.
func (s script) calls(random *rand.Rand) []call {
	var whats []int
	for what, w := range s.weights {
		for range w {
			whats = append(whats, what)
		}
	}
	run := make([]call, s.length)
	for i := range run {
		run[i] = call{whats[random.Intn(len(whats))], s.keys[random.Intn(len(s.keys))]}
	}
	return run
}

// P6.2, P6.3, R5: random runs of any calls, held against a plain list behind each call. R6: another list answers the same.
func TestRandomRuns(t *testing.T) {
	random := rand.New(rand.NewSource(6))
	for n := range 3000 {
		s := randomScript(random)
		l, again, m := newOf(t, s.capacity), newOf(t, s.capacity), &model{capacity: s.capacity}
		for i, c := range s.calls(random) {
			want := m.do(c)
			if got := do(l, c); got != want {
				t.Fatalf("run %d, capacity %d, call %d: %v answered %v; want %v", n, s.capacity, i, c, got, want)
			}
			wantAs(t, l, m, s.keys, c)
			if got := do(again, c); got != want {
				t.Fatalf("run %d, call %d: %v answered %v by another list", n, i, c, got)
			}
		}
		wantAs(t, again, m, s.keys, "the end")
		wantPins(t, l, m, "the end")
		wantPins(t, again, m, "the end")
	}
}

// P6.2, P6.3: a long run on a list of the greatest capacity.
func TestGreatList(t *testing.T) {
	random := rand.New(rand.NewSource(7))
	l, m := newOf(t, 4096), &model{capacity: 4096}
	for i := range 4096 {
		do(l, call{add, i})
		m.do(call{add, i})
	}
	for i := range 20000 {
		c := call{random.Intn(calls), random.Intn(6000)}
		if got, want := do(l, c), m.do(c); got != want {
			t.Fatalf("call %d: %v answered %v; want %v", i, c, got, want)
		}
		if i%1000 == 0 {
			wantAs(t, l, m, []int{c.key}, c)
		}
	}
	wantAs(t, l, m, nil, "the end")
	wantPins(t, l, m, "the end")
}
