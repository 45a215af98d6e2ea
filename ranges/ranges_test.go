package ranges_test

import (
	"math"
	"math/bits"
	"math/rand"
	"slices"
	"testing"

	"octavo/api"
	"octavo/ranges"
)

const (
	least    = math.MinInt
	greatest = math.MaxInt
)

// list makes ranges of their ends: From, To, From, To ..
func list(ends ...int) []api.Range {
	var l []api.Range
	for i := 0; i < len(ends); i += 2 {
		l = append(l, api.Range{From: ends[i], To: ends[i+1]})
	}
	return l
}

// set is which cells of a world are meant, a bit each.
type set uint64

// world is rising points from 0 on. Cell i of it is the numbers from point i on that are below the next point: of ranges that end at points alone each cell is in a list as a whole, or not at all.
type world []int

// small has the numbers 0 to 7, a cell each; great has cells between the least and greatest numbers that there are, and below 0 none.
var (
	small = world{0, 1, 2, 3, 4, 5, 6, 7, 8}
	great = world{0, 1, 2, 1 << 32, greatest - 2, greatest - 1, greatest}
)

func (w world) cells() int { return len(w) - 1 }

// has answers whether n is one of the numbers of s.
func (w world) has(s set, n int) bool {
	for i := range w.cells() {
		if w[i] <= n && n < w[i+1] {
			return s>>i&1 == 1
		}
	}
	return false
}

// setOf does what the chapter's Words say: a cell is in the set, if its first number is in a range or more.
func (w world) setOf(l []api.Range) set {
	var s set
	for i := range w.cells() {
		for _, r := range l {
			if r.From <= w[i] && w[i] < r.To {
				s |= 1 << i
			}
		}
	}
	return s
}

// right is the right list of a set: each run of cells as one range.
func (w world) right(s set) []api.Range {
	var l []api.Range
	for i := 0; i < w.cells(); i++ {
		from := i
		for s>>i&1 == 1 {
			i++
		}
		if from < i {
			l = append(l, api.Range{From: w[from], To: w[i]})
		}
	}
	return l
}

// total is how many numbers a set has.
func (w world) total(s set) int {
	n := 0
	for i := range w.cells() {
		n += int(s>>i&1) * (w[i+1] - w[i])
	}
	return n
}

// fit is P3.2's Fit: of the cells at which n numbers may begin, the least one from which on they are all there.
func (w world) fit(s set, n int) (int, bool) {
	if n < 1 {
		return 0, false
	}
	for i := range w.cells() {
		rest := n
		for j := i; rest > 0 && s>>j&1 == 1; j++ {
			rest -= w[j+1] - w[j]
		}
		if rest <= 0 {
			return w[i], true
		}
	}
	return 0, false
}

// ends are the points of a world and places below 0: the ends that a range may have there.
func (w world) ends() []int { return append([]int{least, least + 1, -2, -1}, w...) }

// lists hands f all lists of so many ranges with those ends: turned about and empty ones too, in any order. f must not keep its list.
func (w world) lists(n int, f func(l []api.Range)) {
	l := make([]api.Range, n)
	var fill func(i int)
	fill = func(i int) {
		if i == n {
			f(l)
			return
		}
		for _, from := range w.ends() {
			for _, to := range w.ends() {
				l[i] = api.Range{From: from, To: to}
				fill(i + 1)
			}
		}
	}
	fill(0)
}

// randomList is any list of ranges with those ends.
func (w world) randomList(random *rand.Rand, n int) []api.Range {
	ends := w.ends()
	var l []api.Range
	for range n {
		l = append(l, api.Range{From: ends[random.Intn(len(ends))], To: ends[random.Intn(len(ends))]})
	}
	return l
}

// wantOne holds the calls that have one list against the set that it stands for.
func (w world) wantOne(t *testing.T, l []api.Range) {
	t.Helper()
	s := w.setOf(l)
	right := w.right(s)
	wantNormal(t, l, right...)
	wantRight(t, l, slices.Equal(l, right))
	wantTotal(t, l, w.total(s))
	for _, p := range w.ends() {
		for _, n := range []int{p - 1, p, p + 1} {
			wantHas(t, l, n, w.has(s, n))
		}
	}
	sizes := []int{least, -1, 0, 1, 2, 3, greatest}
	for i, p := range w {
		sizes = append(sizes, p, p+1, p-1, p-w[i/2])
	}
	for _, n := range sizes {
		at, ok := w.fit(s, n)
		wantFit(t, l, n, at, ok)
	}
}

// wantTwo holds the calls that have two lists against the sets that they stand for.
func (w world) wantTwo(t *testing.T, a, b []api.Range) {
	t.Helper()
	s, z := w.setOf(a), w.setOf(b)
	wantEither(t, a, b, w.right(s|z)...)
	wantBoth(t, a, b, w.right(s&z)...)
	wantLess(t, a, b, w.right(s&^z)...)
}

func wantRight(t *testing.T, l []api.Range, want bool) {
	t.Helper()
	if ok := ranges.Right(l); ok != want {
		t.Errorf("Right(%v): %v, want %v", l, ok, want)
	}
}

func wantNormal(t *testing.T, l []api.Range, want ...api.Range) {
	t.Helper()
	if n := ranges.Normal(l); !slices.Equal(n, want) {
		t.Errorf("Normal(%v): %v, want %v", l, n, want)
	}
}

func wantEither(t *testing.T, a, b []api.Range, want ...api.Range) {
	t.Helper()
	if l := ranges.Either(a, b); !slices.Equal(l, want) {
		t.Errorf("Either(%v, %v): %v, want %v", a, b, l, want)
	}
}

func wantBoth(t *testing.T, a, b []api.Range, want ...api.Range) {
	t.Helper()
	if l := ranges.Both(a, b); !slices.Equal(l, want) {
		t.Errorf("Both(%v, %v): %v, want %v", a, b, l, want)
	}
}

func wantLess(t *testing.T, a, b []api.Range, want ...api.Range) {
	t.Helper()
	if l := ranges.Less(a, b); !slices.Equal(l, want) {
		t.Errorf("Less(%v, %v): %v, want %v", a, b, l, want)
	}
}

func wantTotal(t *testing.T, l []api.Range, want int) {
	t.Helper()
	if n := ranges.Total(l); n != want {
		t.Errorf("Total(%v): %d, want %d", l, n, want)
	}
}

func wantHas(t *testing.T, l []api.Range, n int, want bool) {
	t.Helper()
	if ok := ranges.Has(l, n); ok != want {
		t.Errorf("Has(%v, %d): %v, want %v", l, n, ok, want)
	}
}

func wantFit(t *testing.T, l []api.Range, n, want int, wantOK bool) {
	t.Helper()
	if at, ok := ranges.Fit(l, n); at != want || ok != wantOK {
		t.Errorf("Fit(%v, %d): %d %v, want %d %v", l, n, at, ok, want, wantOK)
	}
}

// P3.1, what the chapter tells.
func TestListsExamples(t *testing.T) {
	wantNormal(t, list(5, 7, 2, 3, 6, 9, 3, 4, 8, 8), list(2, 4, 5, 9)...)
	wantNormal(t, list(-3, 2), list(0, 2)...)
	wantEither(t, list(0, 3), list(3, 5), list(0, 5)...)
	wantLess(t, list(0, 9), list(2, 4, 8, 20), list(0, 2, 4, 8)...)
	wantBoth(t, list(0, 9), list(2, 4, 8, 20), list(2, 4, 8, 9)...)
}

// P3.2, what the chapter tells.
func TestAsksExamples(t *testing.T) {
	wantTotal(t, list(0, 3, 2, 5), 5)
	wantFit(t, list(2, 4, 6, 9), 3, 6, true)
	wantFit(t, list(2, 4, 6, 9), 4, 0, false)
}

// P3.1, Right, by hand: what is right.
func TestRight(t *testing.T) {
	wantRight(t, nil, true)
	wantRight(t, []api.Range{}, true)
	wantRight(t, list(0, 1), true)
	wantRight(t, list(5, 9), true)
	wantRight(t, list(0, 1, 2, 3, 4, 9), true)
	wantRight(t, list(0, greatest), true)
	wantRight(t, list(greatest-1, greatest), true)
	wantRight(t, list(0, greatest-2, greatest-1, greatest), true)
}

// P3.1, Right, by hand: each way in which a list isn't right, in its first range, its last one, and between.
func TestNotRight(t *testing.T) {
	for _, wrong := range [][]api.Range{
		list(3, 5, 5, 7),
		list(3, 5, 4, 7),
		list(3, 7, 4, 5),
		list(3, 5, 3, 5),
		list(6, 7, 3, 4),
		list(4, 4),
		list(0, 0),
		list(5, 4),
		list(-1, 1),
		list(-2, -1),
		list(least, least),
		list(least, greatest),
		list(greatest, least),
		list(greatest, greatest),
		list(0, least),
		list(least, 0),
	} {
		wantRight(t, wrong, false)
		wantRight(t, append(list(0, 1), wrong...), false)
		wantRight(t, append(wrong, list(20, 30)...), false)
		wantRight(t, slices.Concat(list(0, 1), wrong, list(20, 30)), false)
	}
	wantRight(t, list(0, greatest, greatest, least), false)
}

// P3.1, Normal, by hand: each way in which a list is brought in order.
func TestNormal(t *testing.T) {
	wantNormal(t, list(3, 5), list(3, 5)...)
	wantNormal(t, list(1, 2, 3, 4), list(1, 2, 3, 4)...)
	wantNormal(t, list(3, 4, 1, 2), list(1, 2, 3, 4)...)
	wantNormal(t, list(1, 2, 2, 3), list(1, 3)...)
	wantNormal(t, list(2, 3, 1, 2), list(1, 3)...)
	wantNormal(t, list(1, 4, 2, 6), list(1, 6)...)
	wantNormal(t, list(1, 9, 2, 3, 4, 5, 8, 9), list(1, 9)...)
	wantNormal(t, list(2, 3, 1, 9, 4, 5), list(1, 9)...)
	wantNormal(t, list(1, 3, 1, 5, 1, 4), list(1, 5)...)
	wantNormal(t, list(3, 5, 3, 5, 3, 5), list(3, 5)...)
	wantNormal(t, list(1, 2, 5, 6, 2, 5), list(1, 6)...)
	wantNormal(t, list(-4, -2, -1, 0, -1, 1, 3, 4), list(0, 1, 3, 4)...)
}

// P3.1, P3.2: ranges that have no numbers count nowhere: empty ones, such as are turned about, and such as lie below 0.
func TestNoNumbers(t *testing.T) {
	for _, none := range [][]api.Range{
		nil,
		{},
		list(0, 0),
		list(4, 4),
		list(9, 1),
		list(1, -1),
		list(-5, 0),
		list(-5, -1),
		list(-1, -5),
		list(least, least),
		list(least, 0),
		list(least, -1),
		list(0, least),
		list(greatest, least),
		list(greatest, greatest),
		list(greatest, 0),
		list(7, 2, 5, 5, -9, -3, greatest, least, 0, 0),
	} {
		some := list(3, 5, 8, 9)
		wantNormal(t, none)
		wantNormal(t, slices.Concat(none, some, none), some...)
		wantEither(t, none, none)
		wantEither(t, none, some, some...)
		wantEither(t, some, none, some...)
		wantBoth(t, none, none)
		wantBoth(t, none, some)
		wantBoth(t, some, none)
		wantLess(t, none, none)
		wantLess(t, none, some)
		wantLess(t, some, none, some...)
		wantTotal(t, none, 0)
		wantTotal(t, slices.Concat(none, some, none), 3)
		for _, n := range []int{least, -5, -3, -1, 0, 1, 4, 5, greatest} {
			wantHas(t, none, n, false)
			wantFit(t, none, n, 0, false)
		}
		wantFit(t, slices.Concat(none, some, none), 2, 3, true)
	}
}

// P3.1, two lists, by hand: a range that several of the other list cut, and one that cuts several.
func TestTwoLists(t *testing.T) {
	one, many := list(10, 30), list(0, 3, 8, 12, 14, 15, 18, 20, 29, 40, 50, 60)
	wantBoth(t, one, many, list(10, 12, 14, 15, 18, 20, 29, 30)...)
	wantBoth(t, many, one, list(10, 12, 14, 15, 18, 20, 29, 30)...)
	wantLess(t, one, many, list(12, 14, 15, 18, 20, 29)...)
	wantLess(t, many, one, list(0, 3, 8, 10, 30, 40, 50, 60)...)
	wantEither(t, one, many, list(0, 3, 8, 40, 50, 60)...)
	wantEither(t, many, one, list(0, 3, 8, 40, 50, 60)...)
}

// P3.1, two lists, by hand: ranges that touch the other list's have nothing in common with them, but are one with them.
func TestTwoListsThatTouch(t *testing.T) {
	a, b := list(0, 2, 4, 6, 8, 10), list(2, 4, 6, 8)
	wantBoth(t, a, b)
	wantBoth(t, b, a)
	wantLess(t, a, b, a...)
	wantLess(t, b, a, b...)
	wantEither(t, a, b, list(0, 10)...)
	wantEither(t, b, a, list(0, 10)...)
}

// P3.1: both lists are the same one.
func TestListWithItself(t *testing.T) {
	for _, l := range [][]api.Range{list(0, 2, 4, 6), list(4, 6, 0, 2, 1, 2), list(0, greatest), list(-3, 5, 9, 1)} {
		want := ranges.Normal(l)
		wantEither(t, l, l, want...)
		wantBoth(t, l, l, want...)
		wantLess(t, l, l)
	}
}

// P3.1, P3.2, P1 (R1): the least and greatest numbers, by hand. The greatest one has no number above it, so it is in no range.
func TestGreatNumbers(t *testing.T) {
	all, last := list(least, greatest), list(greatest-1, greatest)
	wantNormal(t, all, list(0, greatest)...)
	wantTotal(t, all, greatest)
	wantTotal(t, slices.Concat(all, all, last), greatest)
	wantTotal(t, last, 1)
	wantHas(t, all, greatest-1, true)
	wantHas(t, all, greatest, false)
	wantHas(t, all, 0, true)
	wantHas(t, all, -1, false)
	wantHas(t, all, least, false)
	wantHas(t, last, greatest-1, true)
	wantHas(t, last, greatest-2, false)
	wantFit(t, all, greatest, 0, true)
	wantFit(t, last, 1, greatest-1, true)
	wantFit(t, last, 2, 0, false)
	wantFit(t, list(1, greatest), greatest, 0, false)
	wantFit(t, list(1, greatest), greatest-1, 1, true)
	wantLess(t, all, last, list(0, greatest-1)...)
	wantLess(t, last, all)
	wantBoth(t, all, last, last...)
	wantEither(t, list(least, greatest-1), last, list(0, greatest)...)
}

// P3.2, Has, by hand: the first number of a range, the last one, and those beside them, wherever in the list the range is.
func TestHas(t *testing.T) {
	for _, l := range [][]api.Range{list(3, 6), list(3, 6, 20, 30), list(20, 30, 3, 6), list(9, 1, 3, 6, 20, 30), list(5, 6, 3, 5), list(3, 5, 3, 6)} {
		for n, want := range []bool{false, false, false, true, true, true, false, false} {
			wantHas(t, l, n, want)
		}
	}
	for n := -4; n < 4; n++ {
		wantHas(t, list(-3, 2), n, n == 0 || n == 1)
	}
}

// P3.2, Fit, by hand: numbers may go on from one range to another; where several places would do, it is the least.
func TestFit(t *testing.T) {
	wantFit(t, list(2, 4, 4, 6), 4, 2, true)
	wantFit(t, list(2, 4, 4, 6), 5, 0, false)
	wantFit(t, list(4, 6, 2, 4), 4, 2, true)
	wantFit(t, list(2, 5, 3, 7), 5, 2, true)
	wantFit(t, list(2, 4, 5, 7), 3, 0, false)
	wantFit(t, list(20, 30, 2, 5, 10, 14), 3, 2, true)
	wantFit(t, list(20, 30, 2, 5, 10, 14), 4, 10, true)
	wantFit(t, list(20, 30, 2, 5, 10, 14), 5, 20, true)
	wantFit(t, list(20, 30, 2, 5, 10, 14), 11, 0, false)
	wantFit(t, list(-5, 3), 3, 0, true)
	wantFit(t, list(-5, 3), 4, 0, false)
	wantFit(t, list(0, 1), 1, 0, true)
}

// P3.2, Fit, wrong inputs: fewer than one number.
func TestFitOfNone(t *testing.T) {
	for _, n := range []int{0, -1, -2, least, least + 1} {
		for _, l := range [][]api.Range{nil, list(0, 9), list(3, 9), list(5, 1), list(least, greatest), list(-9, -1)} {
			wantFit(t, l, n, 0, false)
		}
	}
}

// P3.1, P3.2: all lists of no range, of one and of two, held against the sets that they stand for.
func TestAllShortLists(t *testing.T) {
	for _, w := range []world{small, great} {
		for n := range 3 {
			w.lists(n, func(l []api.Range) { w.wantOne(t, l) })
		}
	}
}

// P3.1: each list of one range with each other one.
func TestAllPairsOfRanges(t *testing.T) {
	for _, w := range []world{small, great} {
		w.lists(2, func(l []api.Range) { w.wantTwo(t, l[:1], l[1:]) })
	}
}

// P3.1: all pairs of right lists that a world has.
func TestAllPairsOfRightLists(t *testing.T) {
	for _, w := range []world{small, great} {
		for a := range set(1) << w.cells() {
			w.wantOne(t, w.right(a))
			for b := range set(1) << w.cells() {
				w.wantTwo(t, w.right(a), w.right(b))
			}
		}
	}
}

// P3.1, P3.2: longer lists of any ranges, in any order.
func TestAnyLists(t *testing.T) {
	random := rand.New(rand.NewSource(1))
	wide := world{0}
	for len(wide) < 60 {
		wide = append(wide, wide[len(wide)-1]+1+random.Intn(3))
	}
	for _, w := range []world{small, great, wide} {
		for range 2000 {
			a, b := w.randomList(random, random.Intn(9)), w.randomList(random, random.Intn(9))
			w.wantOne(t, a)
			w.wantTwo(t, a, b)
		}
	}
}

// scattered is a set, told by as many ranges as it has cells and more: in any order, some of them twice, with such between as have no number.
func (w world) scattered(random *rand.Rand, s set) []api.Range {
	l := list(5, 5, 7, 3, -8, -2, least, 0)
	for rest := s; rest != 0; rest &= rest - 1 {
		i := bits.TrailingZeros64(uint64(rest))
		r := api.Range{From: w[i], To: w[i+1]}
		if i == 0 {
			r.From = -random.Intn(4)
		}
		l = append(l, r)
		if random.Intn(3) == 0 {
			l = append(l, r)
		}
	}
	random.Shuffle(len(l), func(i, j int) { l[i], l[j] = l[j], l[i] })
	return l
}

// P3.1, P3.2: the same set gives the same answers, whichever list tells it.
func TestScatteredLists(t *testing.T) {
	random := rand.New(rand.NewSource(2))
	for _, w := range []world{small, great} {
		for a := range set(1) << w.cells() {
			l := w.scattered(random, a)
			if s := w.setOf(l); s != a {
				t.Fatalf("%v stands for %b, not for %b", l, s, a)
			}
			w.wantOne(t, l)
			for range 20 {
				b := set(random.Int63n(1 << w.cells()))
				w.wantTwo(t, l, w.scattered(random, b))
				w.wantTwo(t, l, w.right(b))
				w.wantTwo(t, w.right(b), l)
			}
		}
	}
}

// P3.1, P3.2: lists of many ranges, out of order, whose answers have many ranges too.
func TestLongLists(t *testing.T) {
	const n = 1 << 16
	var threes, twos, common, first, either []api.Range
	for i := range n {
		at := 6 * i
		threes = append(threes, api.Range{From: at, To: at + 3})
		twos = append(twos, api.Range{From: at + 2, To: at + 4})
		common = append(common, api.Range{From: at + 2, To: at + 3})
		first = append(first, api.Range{From: at, To: at + 2})
		either = append(either, api.Range{From: at, To: at + 4})
	}
	random := rand.New(rand.NewSource(3))
	a, b := slices.Clone(threes), slices.Clone(twos)
	random.Shuffle(n, func(i, j int) { a[i], a[j] = a[j], a[i] })
	random.Shuffle(n, func(i, j int) { b[i], b[j] = b[j], b[i] })
	for name, answer := range map[string][2][]api.Range{
		"Normal": {ranges.Normal(a), threes},
		"Either": {ranges.Either(a, b), either},
		"Both":   {ranges.Both(a, b), common},
		"Less":   {ranges.Less(a, b), first},
		"whole":  {ranges.Less(list(0, 6*n), a), ranges.Less(list(3, 6*n), threes[1:])},
	} {
		if !slices.Equal(answer[0], answer[1]) || len(answer[0]) != n {
			t.Errorf("%s of %d ranges is wrong", name, n)
		}
	}
	if ranges.Right(a) || !ranges.Right(threes) || ranges.Total(a) != 3*n || !ranges.Has(a, 6*n-4) || ranges.Has(a, 6*n-3) {
		t.Errorf("an answer about %d ranges is wrong", n)
	}
	a[n/2].To = a[n/2].From + 5
	if at, ok := ranges.Fit(a, 5); at != a[n/2].From || !ok {
		t.Errorf("Fit: %d %v, want %d", at, ok, a[n/2].From)
	}
}

// calls are all calls of the package, as such as answer a list (of those that don't, nothing).
func calls() map[string]func(a, b []api.Range) []api.Range {
	return map[string]func(a, b []api.Range) []api.Range{
		"Right":  func(a, b []api.Range) []api.Range { ranges.Right(a); return nil },
		"Normal": func(a, b []api.Range) []api.Range { return ranges.Normal(a) },
		"Either": ranges.Either,
		"Both":   ranges.Both,
		"Less":   ranges.Less,
		"Total":  func(a, b []api.Range) []api.Range { ranges.Total(a); return nil },
		"Has":    func(a, b []api.Range) []api.Range { ranges.Has(a, 7); return nil },
		"Fit":    func(a, b []api.Range) []api.Range { ranges.Fit(a, 7); return nil },
	}
}

// roomy lays a list in greater memory, with ranges behind its length that would count if they were read, and answers that memory too.
func roomy(l []api.Range) (part, whole []api.Range) {
	whole = append(slices.Clone(l), list(0, 50, 60, 70, 2, 90)...)
	return whole[:len(l)], whole
}

// kinds are lists that a careless call would change: such as have to be sorted, joined, cut or left as they are.
func kinds() [][]api.Range {
	return [][]api.Range{
		{},
		list(3, 5),
		list(3, 5, 8, 9, 20, 40),
		list(20, 40, 8, 9, 3, 5),
		list(3, 5, 5, 7, 6, 9, 1, 2),
		list(-4, 2, 9, 9, 7, 3, -9, -1, 20, 21, -4, 6),
	}
}

// P3.3, R4: neither the lists nor the room behind them are changed, and that room isn't read.
func TestNothingIsChanged(t *testing.T) {
	for name, call := range calls() {
		for _, a := range kinds() {
			for _, b := range kinds() {
				want := call(slices.Clip(slices.Clone(a)), slices.Clip(slices.Clone(b)))
				x, xWhole := roomy(a)
				y, yWhole := roomy(b)
				_, xWas := roomy(a)
				_, yWas := roomy(b)
				if l := call(x, y); !slices.Equal(l, want) {
					t.Errorf("%s(%v, %v) with room behind: %v, want %v", name, a, b, l, want)
				}
				if !slices.Equal(xWhole, xWas) || !slices.Equal(yWhole, yWas) {
					t.Errorf("%s(%v, %v): what was handed in is now %v, %v", name, a, b, xWhole, yWhole)
				}
			}
		}
	}
}

// P3.3: lists that lie one behind the other, or one over the other, in the same memory aren't changed either.
func TestSharedMemoryIsLeftAlone(t *testing.T) {
	was := list(20, 40, 8, 9, 3, 5, -4, 6, 5, 5, 30, 50)
	for name, call := range calls() {
		for i := range len(was) + 1 {
			for j := range len(was) + 1 {
				memory := slices.Clone(was)
				l, want := call(memory[:i], memory[j:]), call(slices.Clone(was[:i]), slices.Clone(was[j:]))
				if !slices.Equal(memory, was) || !slices.Equal(l, want) {
					t.Errorf("%s(%v, %v): %v, want %v; what was handed in is now %v", name, was[:i], was[j:], l, want, memory)
				}
			}
		}
	}
}

// R4: an answer is new memory: who writes over it, or over the room behind it, changes nothing that was handed in, and the other way round.
func TestAnswersAreNewMemory(t *testing.T) {
	for name, call := range calls() {
		for _, a := range kinds() {
			for _, b := range kinds() {
				x, xWhole := roomy(a)
				y, yWhole := roomy(b)
				xWas, yWas := slices.Clone(xWhole), slices.Clone(yWhole)
				answer := call(x, y)
				was := slices.Clone(answer)
				for i := range xWhole {
					xWhole[i] = api.Range{From: 70, To: 80}
				}
				for i := range yWhole {
					yWhole[i] = api.Range{From: 90, To: 95}
				}
				if !slices.Equal(answer, was) {
					t.Errorf("%s(%v, %v) answers memory that was handed in", name, a, b)
				}
				copy(xWhole, xWas)
				copy(yWhole, yWas)
				whole := answer[:cap(answer)]
				for i := range whole {
					whole[i] = api.Range{From: -1, To: -1}
				}
				if !slices.Equal(xWhole, xWas) || !slices.Equal(yWhole, yWas) {
					t.Errorf("%s(%v, %v): who writes over the answer changes what was handed in", name, a, b)
				}
			}
		}
	}
}

// R6: what was asked ahead, and what became of its answer, counts for nothing.
func TestCallsAreApart(t *testing.T) {
	for range 3 {
		l := ranges.Normal(list(5, 7, 2, 3, 6, 9, 3, 4, 8, 8))
		if !slices.Equal(l, list(2, 4, 5, 9)) {
			t.Errorf("Normal: %v", l)
		}
		clear(l[:cap(l)])
		wantLess(t, list(0, 9), list(2, 4, 8, 20), list(0, 2, 4, 8)...)
		wantNormal(t, nil)
		wantTotal(t, list(0, 3, 2, 5), 5)
	}
}
