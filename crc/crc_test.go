package crc_test

import (
	"bytes"
	"hash/crc32"
	"math"
	"math/rand"
	"slices"
	"testing"
	"time"

	"octavo/crc"
)

// period is after how many moves each sum is again what it was: as many as there are sums that aren't 0.
const period = 1<<32 - 1

// moved does what the chapter's Words say, by arithmetic: n times by a byte.
func moved(sum uint32, n int) uint32 {
	for range n {
		for range 8 {
			odd := sum%2 == 1
			sum /= 2
			if odd {
				sum ^= 0xedb88320
			}
		}
	}
	return sum
}

// sumOf does what P2.1 says.
func sumOf(text []byte) uint32 {
	sum := uint32(math.MaxUint32)
	for _, b := range text {
		sum = sum - sum%256 + (sum%256 ^ uint32(b))
		sum = moved(sum, 1)
	}
	return math.MaxUint32 - sum
}

// linear is a move told by what it makes of each single bit: sums are turned by one another, so no more need be known.
type linear [32]uint32

func oneMove() linear {
	var m linear
	for i := range m {
		m[i] = moved(1<<i, 1)
	}
	return m
}

func (m linear) of(sum uint32) uint32 {
	var out uint32
	for i, x := range m {
		if sum>>i&1 == 1 {
			out ^= x
		}
	}
	return out
}

// movedFar is moved for any n, in as many steps as n has bits.
func movedFar(sum uint32, n int) uint32 {
	for m := oneMove(); n > 0; n /= 2 {
		if n%2 == 1 {
			sum = m.of(sum)
		}
		var twice linear
		for i, x := range m {
			twice[i] = m.of(x)
		}
		m = twice
	}
	return sum
}

func wantOf(t *testing.T, want uint32, parts ...[]byte) {
	t.Helper()
	if sum := crc.Of(parts...); sum != want {
		t.Errorf("Of(%.60q): %08x, want %08x", parts, sum, want)
	}
}

func wantJoin(t *testing.T, a, b uint32, n int, want uint32) {
	t.Helper()
	if sum := crc.Join(a, b, n); sum != want {
		t.Errorf("Join(%08x, %08x, %d): %08x, want %08x", a, b, n, sum, want)
	}
}

// sums are ordinary ones, and the edges: none of the bits, one, all.
func sums() []uint32 {
	list := []uint32{0, math.MaxUint32, 1, 5, 6, 0xedb88320, 0xcbf43926, 0xe8b7be43, 0x77073096, 0x80000001}
	for i := range 32 {
		list = append(list, 1<<i)
	}
	return list
}

func randomText(random *rand.Rand, n int) []byte {
	text := make([]byte, n)
	random.Read(text)
	return text
}

// P2.1, the sums that the chapter tells.
func TestOfExamples(t *testing.T) {
	wantOf(t, 0xcbf43926, []byte("123456789"))
	wantOf(t, 0xe8b7be43, []byte("a"))
	wantOf(t, 0x9e83486d, []byte("ab"))
}

// P2.1, nothing: no parts, and parts without bytes.
func TestOfNothing(t *testing.T) {
	wantOf(t, 0)
	wantOf(t, 0, nil...)
	wantOf(t, 0, [][]byte{}...)
	wantOf(t, 0, nil)
	wantOf(t, 0, []byte{})
	wantOf(t, 0, nil, []byte{}, nil, nil, []byte{})
}

// P2.1, sums that are known elsewhere, so that the model above stands for something: bytes 0 count, however many there are.
func TestOfByHand(t *testing.T) {
	wantOf(t, 0xd202ef8d, []byte{0})
	wantOf(t, 0x41d912ff, make([]byte, 2))
	wantOf(t, 0x2144df1c, make([]byte, 4))
	wantOf(t, 0x190a55ad, make([]byte, 32))
	wantOf(t, 0xff000000, []byte{255})
	wantOf(t, 0xffffffff, []byte{255, 255, 255, 255})
	wantOf(t, 0xff6cab0b, bytes.Repeat([]byte{255}, 32))
	wantOf(t, 0x414fa339, []byte("The quick brown fox jumps over the lazy dog"))
}

// P2.1: each byte alone, ahead of another one and behind it.
func TestOfEachByte(t *testing.T) {
	for i := range 256 {
		for _, text := range [][]byte{{byte(i)}, {byte(i), 'x'}, {'x', byte(i)}, {0, byte(i), 255}} {
			wantOf(t, sumOf(text), text)
			wantOf(t, crc32.ChecksumIEEE(text), text)
		}
	}
}

// P2.1: texts of all kinds of lengths.
func TestOfAsTold(t *testing.T) {
	random := rand.New(rand.NewSource(1))
	for n := range 600 {
		text := randomText(random, n)
		wantOf(t, sumOf(text), text)
		wantOf(t, crc32.ChecksumIEEE(text), text)
	}
	great := randomText(random, 1<<20+3)
	wantOf(t, crc32.ChecksumIEEE(great), great)
}

// P2.1: one text in two parts and in three, parted everywhere, with empty parts between.
func TestOfPartedEverywhere(t *testing.T) {
	text := []byte("one text, \x00 in parts \xff\xff")
	want := sumOf(text)
	for i := range len(text) + 1 {
		wantOf(t, want, text[:i], text[i:])
		wantOf(t, want, nil, text[:i], nil, []byte{}, text[i:], nil)
		for j := i; j <= len(text); j++ {
			wantOf(t, want, text[:i], text[i:j], text[j:])
		}
	}
}

// P2.1: as many parts as bytes, and more; many parts of any lengths.
func TestOfManyParts(t *testing.T) {
	random := rand.New(rand.NewSource(2))
	text := randomText(random, 3000)
	want := sumOf(text)
	var ones, gaps, some [][]byte
	for i := range text {
		ones = append(ones, text[i:i+1])
		gaps = append(gaps, text[i:i], text[i:i+1], nil)
	}
	wantOf(t, want, ones...)
	wantOf(t, want, gaps...)
	for range 50 {
		some = nil
		for rest := text; len(rest) > 0; {
			n := min(random.Intn(40), len(rest))
			some, rest = append(some, rest[:n]), rest[n:]
		}
		wantOf(t, want, some...)
	}
}

// P2.1: the order of the parts counts, and one that stands there twice counts twice.
func TestOfOrderOfParts(t *testing.T) {
	a, b := []byte("first"), []byte("second")
	wantOf(t, sumOf([]byte("firstsecond")), a, b)
	wantOf(t, sumOf([]byte("secondfirst")), b, a)
	wantOf(t, sumOf([]byte("firstfirst")), a, a)
	if crc.Of(a, b) == crc.Of(b, a) {
		t.Error("the order of the parts doesn't count")
	}
}

// R4: neither the parts nor the room behind them, nor that behind the list of them, is read or changed.
func TestOfLeavesPartsAlone(t *testing.T) {
	room := []byte("abXYZ")
	list := [][]byte{room[:1], room[1:2], room[2:3], []byte("behind")}
	wantOf(t, 0x9e83486d, list[:2]...)
	if string(room) != "abXYZ" || string(list[2]) != "X" || string(list[3]) != "behind" {
		t.Errorf("what was handed in is now %q, %q", room, list)
	}
	if len(list[0]) != 1 || &list[0][0] != &room[0] || &list[1][0] != &room[1] {
		t.Error("the list of parts was changed")
	}
}

// P2.2, what the chapter tells.
func TestJoinExamples(t *testing.T) {
	wantJoin(t, crc.Of([]byte("a")), crc.Of([]byte("b")), 1, 0x9e83486d)
	wantJoin(t, 1, 0, 1, 0x77073096)
	wantJoin(t, 5, 6, -1, 3)
}

// P2.2: it ends soon, however great n is. If it doesn't, no test behind this one would end either: so all of them are given up.
func TestJoinEndsSoon(*testing.T) {
	done := make(chan uint32)
	go func() {
		sum := uint32(1)
		for range 2000 {
			sum = crc.Join(sum, 0, math.MaxInt)
			sum = crc.Join(sum, 0, 1<<62)
			sum = crc.Join(sum, 0, math.MinInt)
		}
		done <- sum
	}()
	select {
	case <-done:
	case <-time.After(20 * time.Second):
		panic("6000 calls of Join haven't ended in 20 seconds")
	}
}

// P2.2: below 0 and at 0 nothing is moved.
func TestJoinNotMoved(t *testing.T) {
	for _, n := range []int{0, -1, -2, -8, -255, -256, -period, math.MinInt32, math.MinInt + 1, math.MinInt} {
		for _, a := range sums() {
			for _, b := range sums() {
				wantJoin(t, a, b, n, a^b)
			}
		}
	}
}

// P2.2: moved on once, and some times, step by step.
func TestJoinMovedOn(t *testing.T) {
	for _, a := range sums() {
		far := a
		for n := range 300 {
			wantJoin(t, a, 0, n, far)
			wantJoin(t, a, 0xcbf43926, n, far^0xcbf43926)
			wantJoin(t, a, math.MaxUint32, n, far^math.MaxUint32)
			far = moved(far, 1)
		}
	}
	for _, n := range []int{1 << 12, 1<<16 - 1, 1 << 16, 1<<20 + 1} {
		wantJoin(t, 0xcbf43926, 5, n, moved(0xcbf43926, n)^5)
	}
}

// P2.2: only a is moved, and b is turned in as it is.
func TestJoinLeavesTheSecond(t *testing.T) {
	for _, n := range []int{0, 1, 2, 77, math.MaxInt} {
		for _, b := range sums() {
			wantJoin(t, 0, b, n, b)
		}
	}
}

// P2.2: the edges about each power of 2, up to the greatest number that there is.
func TestJoinGreatCounts(t *testing.T) {
	counts := []int{math.MaxInt, math.MaxInt - 1, math.MaxInt32, math.MaxUint32, 1234567890123456789}
	for i := range 63 {
		counts = append(counts, 1<<i-1, 1<<i, 1<<i+1)
	}
	for _, n := range counts {
		for _, a := range sums() {
			wantJoin(t, a, 6, n, movedFar(a, n)^6)
		}
	}
}

// P2.2: sums come round, so of very great counts too it can be told step by step what they make: nothing wraps on the way.
func TestJoinComesRound(t *testing.T) {
	for _, rounds := range []int{1, 2, 7, 8, 1 << 29, 1<<29 + 1, 1 << 30, 1<<31 - 1, 1 << 31} {
		for _, n := range []int{0, 1, 2, 3, 100} {
			for _, a := range []uint32{0, 1, 5, 0x80000000, 0xcbf43926, math.MaxUint32} {
				wantJoin(t, a, 9, rounds*period+n, moved(a, n)^9)
			}
		}
	}
}

// P2.2: to move on by m and then by n is to move on by both.
func TestJoinMovesAddUp(t *testing.T) {
	random := rand.New(rand.NewSource(3))
	for range 2000 {
		a, m, n := random.Uint32(), random.Int()>>1, random.Int()>>1
		wantJoin(t, crc.Join(a, 0, m), 0, n, crc.Join(a, 0, m+n))
	}
}

// P2.3: a text that is parted anywhere is joined from its parts' sums.
func TestJoinPartedEverywhere(t *testing.T) {
	random := rand.New(rand.NewSource(4))
	for _, n := range []int{0, 1, 2, 9, 64, 256, 700} {
		text := randomText(random, n)
		for i := range n + 1 {
			x, y := text[:i], text[i:]
			wantJoin(t, crc.Of(x), crc.Of(y), len(y), crc.Of(x, y))
			wantJoin(t, crc.Of(x), crc.Of(y), len(y), sumOf(text))
		}
	}
}

// P2.3: one of the texts is empty.
func TestJoinWithNothing(t *testing.T) {
	for _, text := range []string{"", "a", "123456789", "\x00\x00\x00"} {
		sum := crc.Of([]byte(text))
		wantJoin(t, sum, crc.Of(), 0, sum)
		wantJoin(t, crc.Of(), sum, len(text), sum)
	}
}

// P2.3: a long second text, and many texts one behind the other, joined from the left and from the right.
func TestJoinLongAndMany(t *testing.T) {
	x, y := []byte("ahead"), bytes.Repeat([]byte("0123456\n"), 1<<17)
	wantJoin(t, crc.Of(x), crc.Of(y), len(y), crc.Of(x, y))

	random := rand.New(rand.NewSource(5))
	var texts [][]byte
	for range 100 {
		texts = append(texts, randomText(random, random.Intn(50)))
	}
	want := crc.Of(texts...)
	left := crc.Of()
	for _, text := range texts {
		left = crc.Join(left, crc.Of(text), len(text))
	}
	right, n := crc.Of(), 0
	for _, text := range slices.Backward(texts) {
		right = crc.Join(crc.Of(text), right, n)
		n += len(text)
	}
	if left != want || right != want {
		t.Errorf("joined from the left %08x, from the right %08x, want %08x", left, right, want)
	}
}

// P2.3: with any single bit turned a text has another sum.
func TestOneBitTurned(t *testing.T) {
	random := rand.New(rand.NewSource(6))
	for _, n := range []int{1, 2, 3, 4, 5, 8, 9, 31, 64, 244, 256, 1000} {
		for _, text := range [][]byte{make([]byte, n), bytes.Repeat([]byte{255}, n), randomText(random, n)} {
			sum := crc.Of(text)
			for i := range 8 * n {
				text[i/8] ^= 1 << (i % 8)
				if crc.Of(text) == sum {
					t.Errorf("%d bytes with bit %d turned have the same sum", n, i)
				}
				text[i/8] ^= 1 << (i % 8)
			}
			wantOf(t, sum, text)
		}
	}
}

// P2.3: no two of the texts that differ in one bit from the same one have one sum.
func TestTurnedBitsAreToldApart(t *testing.T) {
	text := []byte("a page of the store, as it was written; no two faults of a bit in it look alike")
	seen := map[uint32]int{crc.Of(text): -1}
	for i := range 8 * len(text) {
		turned := bytes.Clone(text)
		turned[i/8] ^= 1 << (i % 8)
		sum := crc.Of(turned)
		if other, ok := seen[sum]; ok {
			t.Errorf("bits %d and %d turned have the same sum", i, other)
		}
		seen[sum] = i
	}
}

// R6: what was asked ahead counts for nothing.
func TestCallsAreApart(t *testing.T) {
	for range 3 {
		wantOf(t, 0xcbf43926, []byte("123456789"))
		wantJoin(t, 1, 0, 1, 0x77073096)
		wantOf(t, 0)
		wantJoin(t, 5, 6, math.MinInt, 3)
	}
}
