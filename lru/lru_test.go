package lru_test

import (
	"math"
	"slices"
	"testing"

	"octavo/api"
	"octavo/lru"
)

// anyKeys are keys of all kinds: the ends, numbers beside them, and some that are alike in fewer bits. None stands twice, nor do they rise.
func anyKeys() []int {
	return []int{0, -1, 1, math.MinInt, math.MaxInt, math.MinInt + 1, math.MaxInt - 1, math.MaxInt32, math.MinInt32,
		1 << 32, 1<<32 + 1, math.MaxUint32, -2, 2, 4095, 4096, 4097, -4096, api.MaxPages, api.MaxPages - 1}
}

// rising answers the keys by number, so that they can be held against Marked.
func rising(keys []int) []int { return slices.Sorted(slices.Values(keys)) }

// newOf answers a list of that capacity with these keys, the first one used longest ago.
func newOf(t *testing.T, capacity int, keys ...int) *lru.Lru {
	t.Helper()
	l, e := lru.New(capacity)
	if e != api.OK || l == nil {
		t.Fatalf("New(%d): %v, error %d", capacity, l, e)
	}
	for _, k := range keys {
		wantAdd(t, l, k, 0, false, api.OK)
	}
	return l
}

func wantAdd(t *testing.T, l *lru.Lru, key, gone int, had bool, e api.Errno) {
	t.Helper()
	g, h, ee := l.Add(key)
	if g != gone || h != had || ee != e {
		t.Fatalf("Add(%d): %d, %v, error %d; want %d, %v, error %d", key, g, h, ee, gone, had, e)
	}
}

func wantOldest(t *testing.T, l *lru.Lru, key int, ok bool) {
	t.Helper()
	k, o := l.Oldest()
	if k != key || o != ok {
		t.Fatalf("Oldest: %d, %v; want %d, %v", k, o, key, ok)
	}
}

func wantKeys(t *testing.T, l *lru.Lru, want ...int) {
	t.Helper()
	if got := l.Keys(); !slices.Equal(got, want) {
		t.Fatalf("Keys: %v; want %v", got, want)
	}
	for _, k := range want {
		if !l.Has(k) {
			t.Fatalf("Has(%d): false", k)
		}
	}
}

func wantMarked(t *testing.T, l *lru.Lru, want ...int) {
	t.Helper()
	if got := l.Marked(); !slices.Equal(got, want) {
		t.Fatalf("Marked: %v; want %v", got, want)
	}
}

// want asks for what a call on a key answered.
func want(t *testing.T, what string, got, want bool) {
	t.Helper()
	if got != want {
		t.Fatalf("%s: %v", what, got)
	}
}

// P6.2, P6.3: the chapter's examples.
func TestExamples(t *testing.T) {
	l := newOf(t, 2)
	wantAdd(t, l, 1, 0, false, api.OK)
	wantAdd(t, l, 2, 0, false, api.OK)
	want(t, "Use(1)", l.Use(1), true)
	wantAdd(t, l, 3, 2, true, api.OK)
	wantKeys(t, l, 1, 3)
	want(t, "Pin(1)", l.Pin(1), true)
	want(t, "Pin(3)", l.Pin(3), true)
	wantAdd(t, l, 4, 0, false, api.ErrFull)
	wantKeys(t, l, 1, 3)
}

// P6.1: capacities that may be; the list is empty.
func TestNew(t *testing.T) {
	for _, capacity := range []int{1, 2, 3, 255, 256, 4095, 4096} {
		l := newOf(t, capacity)
		wantKeys(t, l)
		wantMarked(t, l)
		wantOldest(t, l, 0, false)
		for _, k := range anyKeys() {
			want(t, "Has of an empty list", l.Has(k), false)
		}
	}
}

// P6.1: capacities that may not be, some of them good ones in fewer bits.
func TestNewWrong(t *testing.T) {
	for _, capacity := range []int{0, -1, -2, -4096, math.MinInt32, math.MinInt, math.MinInt + 1,
		4097, 4098, 8192, 1<<16 + 1, math.MaxInt32, math.MaxUint32, 1 << 32, 1<<32 + 1, math.MaxInt} {
		if l, e := lru.New(capacity); e != api.ErrArg || l != nil {
			t.Fatalf("New(%d): %v, error %d", capacity, l, e)
		}
	}
}

// P6.1, P6.3: as many keys as the capacity have room, and no more.
func TestCapacity(t *testing.T) {
	for _, capacity := range []int{1, 2, 3, 7, 255, 256, 257, 4095, 4096} {
		l := newOf(t, capacity)
		var keys []int
		for i := range capacity {
			wantAdd(t, l, -i, 0, false, api.OK)
			keys = append(keys, -i)
		}
		wantKeys(t, l, keys...)
		for i := range capacity {
			wantAdd(t, l, i+1, -i, true, api.OK)
			want(t, "Has of the one that had to go", l.Has(-i), false)
			if i < 3 || i > capacity-3 {
				keys = append(slices.Clone(keys[1:]), i+1)
				wantKeys(t, l, keys...)
			} else {
				keys = append(keys[1:], i+1)
			}
		}
		wantKeys(t, l, keys...)
	}
}

// wantAnswersNothing holds a list's calls against those of one in which no key can be.
func wantAnswersNothing(t *testing.T, l *lru.Lru, e api.Errno) {
	t.Helper()
	for _, k := range anyKeys() {
		wantAdd(t, l, k, 0, false, e)
		want(t, "Use", l.Use(k), false)
		want(t, "Drop", l.Drop(k), false)
		want(t, "Pin", l.Pin(k), false)
		want(t, "Unpin", l.Unpin(k), false)
		want(t, "Mark on", l.Mark(k, true), false)
		want(t, "Mark off", l.Mark(k, false), false)
		want(t, "Has", l.Has(k), false)
		wantOldest(t, l, 0, false)
		wantKeys(t, l)
		wantMarked(t, l)
	}
}

// P6.1: a nil list in every call.
func TestNil(t *testing.T) { wantAnswersNothing(t, nil, api.ErrArg) }

// R1: a list that New has not made has the capacity 0, so all of it is taken.
func TestNotMade(t *testing.T) { wantAnswersNothing(t, &lru.Lru{}, api.ErrFull) }

// P6.2: keys may be any numbers, in each call.
func TestAnyKeys(t *testing.T) {
	keys := anyKeys()
	l := newOf(t, len(keys), keys...)
	wantKeys(t, l, keys...)
	for i, k := range keys {
		wantOldest(t, l, k, true)
		want(t, "Pin", l.Pin(k), true)
		want(t, "Mark", l.Mark(k, true), true)
		want(t, "Drop of a pinned one", l.Drop(k), false)
		want(t, "Unpin", l.Unpin(k), true)
		want(t, "Use", l.Use(k), true)
		wantKeys(t, l, append(slices.Clone(keys[i+1:]), keys[:i+1]...)...)
		wantMarked(t, l, rising(keys[:i+1])...)
	}
	for i, k := range keys {
		if i%2 == 0 {
			want(t, "Drop", l.Drop(k), true)
		} else {
			wantAdd(t, l, 1000+i, 0, false, api.OK) // the room of the one that was dropped
		}
	}
	for i, k := range keys {
		want(t, "Has", l.Has(k), i%2 == 1)
	}
}

// P6.2: any key may be the one that has to go, 0 too: the truth beside it tells it from none.
func TestAnyKeyGoes(t *testing.T) {
	keys := anyKeys()
	for i, k := range keys {
		l := newOf(t, 1, k)
		next := keys[(i+1)%len(keys)]
		wantAdd(t, l, next, k, true, api.OK)
		wantKeys(t, l, next)
		want(t, "Has of the one that had to go", l.Has(k), false)
	}
}

// P6.2: each call on a key that isn't there is false, and changes nothing.
func TestNotThere(t *testing.T) {
	for _, there := range [][]int{nil, {5}, {5, 6, 7}} {
		l := newOf(t, 4, there...)
		for _, k := range there {
			l.Mark(k, true)
		}
		for _, k := range anyKeys() {
			want(t, "Use", l.Use(k), false)
			want(t, "Drop", l.Drop(k), false)
			want(t, "Pin", l.Pin(k), false)
			want(t, "Unpin", l.Unpin(k), false)
			want(t, "Mark on", l.Mark(k, true), false)
			want(t, "Mark off", l.Mark(k, false), false)
			want(t, "Has", l.Has(k), false)
			wantKeys(t, l, there...)
			wantMarked(t, l, there...)
		}
	}
}

// P6.2: what was asked of a key ahead of its Add doesn't count.
func TestAheadOfAdd(t *testing.T) {
	l := newOf(t, 2, 1)
	l.Pin(2)
	l.Mark(2, true)
	wantAdd(t, l, 2, 0, false, api.OK)
	wantMarked(t, l)
	want(t, "Unpin", l.Unpin(2), false)
	want(t, "Drop", l.Drop(2), true)
}

// P6.2: a Use of the oldest, of one between and of the last.
func TestUse(t *testing.T) {
	for used, want3 := range map[int][]int{1: {2, 3, 1}, 2: {1, 3, 2}, 3: {1, 2, 3}} {
		l := newOf(t, 3, 1, 2, 3)
		want(t, "Use", l.Use(used), true)
		wantKeys(t, l, want3...)
		wantOldest(t, l, want3[0], true)
		want(t, "Use again", l.Use(used), true)
		wantKeys(t, l, want3...)
		for i, gone := range want3 {
			wantAdd(t, l, 10+i, gone, true, api.OK)
		}
		wantKeys(t, l, 10, 11, 12)
	}
}

// P6.2: a Use of the only key.
func TestUseAlone(t *testing.T) {
	l := newOf(t, 3, 9)
	want(t, "Use", l.Use(9), true)
	wantKeys(t, l, 9)
	wantAdd(t, l, 8, 0, false, api.OK)
	wantKeys(t, l, 9, 8)
}

// P6.2: Use alone is a use: no other call that is answered changes the order.
func TestOnlyUseUses(t *testing.T) {
	l := newOf(t, 3, 3, 1, 2)
	for _, k := range []int{3, 1, 2, 1, 3} {
		l.Pin(k)
		l.Mark(k, true)
		l.Has(k)
		l.Drop(k)
		l.Oldest()
		l.Keys()
		l.Marked()
		l.Mark(k, false)
		l.Unpin(k)
		l.Add(k)
		wantKeys(t, l, 3, 1, 2)
	}
}

// P6.2: Add of a key that is there is ErrArg, and no use, whether there is room, none, or all are pinned.
func TestAddThere(t *testing.T) {
	for _, capacity := range []int{3, 4} {
		l := newOf(t, capacity, 1, 2, 3)
		l.Mark(1, true)
		for _, k := range []int{1, 2, 3} {
			wantAdd(t, l, k, 0, false, api.ErrArg)
			wantKeys(t, l, 1, 2, 3)
			wantMarked(t, l, 1)
		}
		for _, k := range []int{1, 2, 3} {
			l.Pin(k)
		}
		for _, k := range []int{1, 2, 3} {
			wantAdd(t, l, k, 0, false, api.ErrArg)
			wantKeys(t, l, 1, 2, 3)
			wantMarked(t, l, 1)
			want(t, "Unpin behind Add", l.Unpin(k), true)
			want(t, "Unpin once more", l.Unpin(k), false)
			l.Pin(k)
		}
	}
}

// P6.2: Add where there is room lets none go, though there is an Oldest.
func TestAddWithRoom(t *testing.T) {
	l := newOf(t, 3, 1, 2)
	wantAdd(t, l, 3, 0, false, api.OK)
	wantKeys(t, l, 1, 2, 3)
	want(t, "Drop", l.Drop(2), true)
	wantAdd(t, l, 4, 0, false, api.OK)
	wantKeys(t, l, 1, 3, 4)
	wantAdd(t, l, 5, 1, true, api.OK)
	wantKeys(t, l, 3, 4, 5)
}

// P6.2, P6.3: Add on a full list of which each choice of keys is pinned.
func TestAddPastPinned(t *testing.T) {
	keys := []int{7, 3, 9, 1, 5}
	for choice := range 1 << len(keys) {
		l := newOf(t, len(keys), keys...)
		gone, had := 0, false
		for i, k := range keys {
			if choice>>i&1 == 1 {
				want(t, "Pin", l.Pin(k), true)
			} else if !had {
				gone, had = k, true
			}
		}
		wantOldest(t, l, gone, had)
		if !had {
			wantAdd(t, l, 2, 0, false, api.ErrFull)
			wantKeys(t, l, keys...)
			want(t, "Has of the one that had no room", l.Has(2), false)
			continue
		}
		wantAdd(t, l, 2, gone, true, api.OK)
		at := slices.Index(keys, gone)
		wantKeys(t, l, append(slices.Delete(slices.Clone(keys), at, at+1), 2)...)
	}
}

// P6.2: an Add that is refused as ErrFull changes nothing, and goes on when one is unpinned.
func TestFull(t *testing.T) {
	l := newOf(t, 2, 1, 2)
	l.Mark(2, true)
	l.Pin(1)
	l.Pin(2)
	for _, k := range []int{3, 0, -1, math.MaxInt, math.MinInt} {
		wantAdd(t, l, k, 0, false, api.ErrFull)
		wantKeys(t, l, 1, 2)
		wantMarked(t, l, 2)
		want(t, "Has", l.Has(k), false)
		want(t, "Mark", l.Mark(k, true), false)
	}
	want(t, "Unpin", l.Unpin(2), true)
	wantAdd(t, l, 3, 2, true, api.OK)
	wantKeys(t, l, 1, 3)
	wantMarked(t, l)
}

// P6.2: a pinned list with room isn't full.
func TestPinnedWithRoom(t *testing.T) {
	l := newOf(t, 2, 1)
	l.Pin(1)
	wantOldest(t, l, 0, false)
	wantAdd(t, l, 2, 0, false, api.OK)
	wantOldest(t, l, 2, true)
	wantAdd(t, l, 3, 2, true, api.OK)
	wantKeys(t, l, 1, 3)
}

// P6.2: Oldest goes past pinned keys, lets none go, and is no use.
func TestOldest(t *testing.T) {
	l := newOf(t, 4, 4, 2, 3, 1)
	for i, k := range []int{4, 2, 3, 1} {
		wantOldest(t, l, k, true)
		wantOldest(t, l, k, true)
		wantKeys(t, l, 4, 2, 3, 1)
		want(t, "Pin", l.Pin(k), true)
		if i == 3 {
			wantOldest(t, l, 0, false)
		}
	}
	want(t, "Unpin", l.Unpin(3), true)
	wantOldest(t, l, 3, true)
	want(t, "Unpin", l.Unpin(4), true)
	wantOldest(t, l, 4, true)
	want(t, "Use", l.Use(4), true)
	wantOldest(t, l, 3, true)
}

// P6.2: a key that is pinned n times has to be unpinned n times.
func TestPinnedSeveralTimes(t *testing.T) {
	for _, n := range []int{1, 2, 3, 127, 128, 255, 256, 257, 40000, 70000} {
		l := newOf(t, 1, 6)
		for range n {
			want(t, "Pin", l.Pin(6), true)
		}
		for range n {
			want(t, "Drop", l.Drop(6), false)
			wantOldest(t, l, 0, false)
			wantAdd(t, l, 7, 0, false, api.ErrFull)
			want(t, "Unpin", l.Unpin(6), true)
		}
		wantOldest(t, l, 6, true)
		want(t, "Unpin once too often", l.Unpin(6), false)
		wantOldest(t, l, 6, true)
		want(t, "Pin", l.Pin(6), true) // the one too often isn't owed
		wantOldest(t, l, 0, false)
		want(t, "Unpin", l.Unpin(6), true)
		want(t, "Drop", l.Drop(6), true)
		wantKeys(t, l)
	}
}

// P6.2: pins are each key's own, and stay through Use and Mark.
func TestPinsStay(t *testing.T) {
	l := newOf(t, 3, 1, 2, 3)
	l.Pin(1)
	l.Pin(1)
	l.Pin(2)
	l.Use(1)
	l.Mark(1, true)
	l.Mark(1, false)
	l.Mark(2, false)
	wantOldest(t, l, 3, true)
	l.Use(3)
	wantOldest(t, l, 3, true)
	wantAdd(t, l, 4, 3, true, api.OK)
	wantKeys(t, l, 2, 1, 4)
	want(t, "Unpin(4)", l.Unpin(4), false)
	want(t, "Unpin(1)", l.Unpin(1), true)
	wantOldest(t, l, 4, true)
	want(t, "Unpin(1)", l.Unpin(1), true)
	wantOldest(t, l, 1, true)
	want(t, "Unpin(2)", l.Unpin(2), true)
	wantOldest(t, l, 2, true)
}

// P6.2: Drop of the oldest, of one between and of the last.
func TestDrop(t *testing.T) {
	for dropped, left := range map[int][]int{1: {2, 3, 4}, 2: {1, 3, 4}, 3: {1, 2, 4}, 4: {1, 2, 3}} {
		l := newOf(t, 4, 1, 2, 3, 4)
		want(t, "Drop", l.Drop(dropped), true)
		wantKeys(t, l, left...)
		want(t, "Has", l.Has(dropped), false)
		want(t, "Drop again", l.Drop(dropped), false)
		wantKeys(t, l, left...)
		wantOldest(t, l, left[0], true)
		wantAdd(t, l, 5, 0, false, api.OK)
		wantKeys(t, l, append(slices.Clone(left), 5)...)
		wantAdd(t, l, dropped, left[0], true, api.OK)
		wantKeys(t, l, left[1], left[2], 5, dropped)
	}
}

// P6.2, P6.3: Drop of a pinned key is false, and it stays as it was.
func TestDropPinned(t *testing.T) {
	for _, k := range []int{1, 2, 3} {
		l := newOf(t, 3, 1, 2, 3)
		l.Mark(k, true)
		l.Pin(k)
		want(t, "Drop", l.Drop(k), false)
		wantKeys(t, l, 1, 2, 3)
		wantMarked(t, l, k)
		want(t, "Unpin", l.Unpin(k), true)
		want(t, "Drop", l.Drop(k), true)
		want(t, "Has", l.Has(k), false)
		wantMarked(t, l)
	}
}

// P6.2: Drop of all, from either end, and a list that is used again then.
func TestDropAll(t *testing.T) {
	for _, order := range [][]int{{1, 2, 3}, {3, 2, 1}, {2, 1, 3}, {2, 3, 1}} {
		l := newOf(t, 3, 1, 2, 3)
		for _, k := range order {
			want(t, "Drop", l.Drop(k), true)
		}
		wantKeys(t, l)
		wantOldest(t, l, 0, false)
		for _, k := range order {
			wantAdd(t, l, k, 0, false, api.OK)
		}
		wantKeys(t, l, order...)
		wantAdd(t, l, 4, order[0], true, api.OK)
	}
}

// P6.2: a key that was there and is added again is used last, neither pinned nor marked.
func TestAddedAgain(t *testing.T) {
	dropped := newOf(t, 2, 1, 2)
	evicted := newOf(t, 2, 1, 2)
	for _, l := range []*lru.Lru{dropped, evicted} {
		l.Pin(1)
		l.Pin(1)
		l.Unpin(1)
		l.Mark(1, true)
		l.Unpin(1)
	}
	want(t, "Drop", dropped.Drop(1), true)
	wantMarked(t, dropped)
	wantAdd(t, dropped, 1, 0, false, api.OK)
	wantAdd(t, evicted, 3, 1, true, api.OK)
	wantMarked(t, evicted)
	wantAdd(t, evicted, 1, 2, true, api.OK)
	wantKeys(t, dropped, 2, 1)
	wantKeys(t, evicted, 3, 1)
	for _, l := range []*lru.Lru{dropped, evicted} {
		wantMarked(t, l)
		want(t, "Unpin", l.Unpin(1), false)
		want(t, "Drop", l.Drop(1), true)
	}
}

// P6.2: marked keys are told by rising number, whatever the order of use and of the marks.
func TestMarked(t *testing.T) {
	keys := anyKeys()
	l := newOf(t, len(keys), keys...)
	var marked []int
	for i := range keys {
		k := keys[i*7%len(keys)]
		want(t, "Mark on", l.Mark(k, true), true)
		want(t, "Mark on again", l.Mark(k, true), true)
		marked = append(marked, k)
		wantMarked(t, l, rising(marked)...)
		wantKeys(t, l, keys...)
	}
	for len(marked) > 0 {
		want(t, "Mark off", l.Mark(marked[0], false), true)
		want(t, "Mark off again", l.Mark(marked[0], false), true)
		marked = marked[1:]
		wantMarked(t, l, rising(marked)...)
	}
}

// P6.2: marks stay through Use, Pin, Unpin, a Drop and an Add that are refused, and the going of others.
func TestMarksStay(t *testing.T) {
	l := newOf(t, 3, 3, 1, 2)
	l.Mark(3, true)
	l.Mark(2, true)
	l.Use(3)
	wantMarked(t, l, 2, 3)
	l.Pin(2)
	wantMarked(t, l, 2, 3)
	l.Drop(2)
	l.Add(2)
	wantMarked(t, l, 2, 3)
	l.Unpin(2)
	wantMarked(t, l, 2, 3)
	wantAdd(t, l, 0, 1, true, api.OK)
	wantMarked(t, l, 2, 3)
	l.Mark(0, true)
	wantMarked(t, l, 0, 2, 3)
	wantAdd(t, l, 5, 2, true, api.OK)
	wantMarked(t, l, 0, 3)
	l.Drop(3)
	wantMarked(t, l, 0)
	wantKeys(t, l, 0, 5)
}

// P6.2: a mark keeps no key: it goes as any other one.
func TestMarkedGoes(t *testing.T) {
	l := newOf(t, 2, 1, 2)
	l.Mark(1, true)
	wantOldest(t, l, 1, true)
	wantAdd(t, l, 3, 1, true, api.OK)
	l.Mark(2, true)
	want(t, "Drop", l.Drop(2), true)
	wantKeys(t, l, 3)
	wantMarked(t, l)
}

// R4: what Keys and Marked answer is new memory, with the room behind it.
func TestNewMemory(t *testing.T) {
	l := newOf(t, 4, 1, 2, 3)
	l.Mark(1, true)
	l.Mark(3, true)
	for _, ask := range []func() []int{l.Keys, l.Marked} {
		a, b := ask(), ask()
		before := slices.Clone(b)
		for _, x := range [][]int{a, append(a, 9)[:len(a)+1], a[:cap(a)]} {
			for i := range x {
				x[i] = -77
			}
		}
		if !slices.Equal(b, before) || !slices.Equal(ask(), before) {
			t.Fatalf("%v and %v; want %v", b, ask(), before)
		}
		wantKeys(t, l, 1, 2, 3)
		wantMarked(t, l, 1, 3)
	}
	keys := l.Keys()
	l.Use(1)
	l.Drop(2)
	l.Add(8)
	if !slices.Equal(keys, []int{1, 2, 3}) {
		t.Fatalf("an answer became %v", keys)
	}
}

// R6: two lists are apart.
func TestTwoLists(t *testing.T) {
	a, b := newOf(t, 2, 1, 2), newOf(t, 3, 2, 1)
	a.Pin(1)
	a.Mark(2, true)
	want(t, "Use", b.Use(2), true)
	wantKeys(t, a, 1, 2)
	wantKeys(t, b, 1, 2)
	wantMarked(t, b)
	want(t, "Unpin", b.Unpin(1), false)
	want(t, "Drop", b.Drop(1), true)
	wantKeys(t, a, 1, 2)
	wantAdd(t, a, 3, 2, true, api.OK)
	wantKeys(t, b, 2)
	wantAdd(t, b, 4, 0, false, api.OK)
	wantAdd(t, b, 5, 0, false, api.OK)
	wantKeys(t, a, 1, 3)
	wantKeys(t, b, 2, 4, 5)
}
