package le_test

import (
	"bytes"
	"math"
	"math/big"
	"math/rand"
	"strconv"
	"testing"

	"octavo/api"
	"octavo/le"
)

// numbers are ordinary ones, and all those about a power of 256.
func numbers() []int {
	list := []int{0, 1, 2, 7, 127, 128, 258, 1000, 123456789, 0x0102030405060708, math.MaxInt - 1, math.MaxInt}
	for width := 1; width <= 7; width++ {
		power := 1 << (8 * width)
		list = append(list, power-2, power-1, power, power+1, 2*power-1)
	}
	return list
}

// bytesOf does what P1.1 says, in numbers that have no end: nil, where n has no room.
func bytesOf(n, width int) []byte {
	rest, by, digit := big.NewInt(int64(n)), big.NewInt(256), new(big.Int)
	b := make([]byte, 0, width)
	for range width {
		rest.DivMod(rest, by, digit)
		b = append(b, byte(digit.Int64()))
	}
	if rest.Sign() != 0 {
		return nil
	}
	return b
}

// intOf sums the bytes, each times its power of 256.
func intOf(b []byte) *big.Int {
	sum := new(big.Int)
	for i := len(b) - 1; i >= 0; i-- {
		sum.Mul(sum, big.NewInt(256))
		sum.Add(sum, big.NewInt(int64(b[i])))
	}
	return sum
}

func wantBytes(t *testing.T, n, width int, want []byte, wantE api.Errno) {
	t.Helper()
	b, e := le.Bytes(n, width)
	if e != wantE || !bytes.Equal(b, want) {
		t.Errorf("Bytes(%d, %d): %x %d, want %x %d", n, width, b, e, want, wantE)
	}
}

func wantInt(t *testing.T, b []byte, want int, wantE api.Errno) {
	t.Helper()
	n, e := le.Int(b)
	if e != wantE || n != want {
		t.Errorf("Int(%x): %d %d, want %d %d", b, n, e, want, wantE)
	}
}

// P1.1, the words of it: ordinary numbers and all widths.
func TestBytesAsTold(t *testing.T) {
	for _, n := range numbers() {
		for width := 1; width <= 8; width++ {
			want := bytesOf(n, width)
			if want == nil {
				wantBytes(t, n, width, nil, api.ErrRange)
				continue
			}
			wantBytes(t, n, width, want, api.OK)
		}
	}
}

// P1.1, the bytes by hand, so that the model above stands for something.
func TestBytesByHand(t *testing.T) {
	wantBytes(t, 258, 2, []byte{2, 1}, api.OK)
	wantBytes(t, 0, 1, []byte{0}, api.OK)
	wantBytes(t, 0, 8, make([]byte, 8), api.OK)
	wantBytes(t, 7, 3, []byte{7, 0, 0}, api.OK)
	wantBytes(t, 0x0102030405060708, 8, []byte{8, 7, 6, 5, 4, 3, 2, 1}, api.OK)
	wantBytes(t, math.MaxInt, 8, []byte{255, 255, 255, 255, 255, 255, 255, 127}, api.OK)
}

// P1.1, the edge of each width: the greatest number that has room, and the least that has none.
func TestBytesEdges(t *testing.T) {
	for width := 1; width <= 7; width++ {
		power := 1 << (8 * width)
		wantBytes(t, power-1, width, bytes.Repeat([]byte{255}, width), api.OK)
		wantBytes(t, power, width, nil, api.ErrRange)
		wantBytes(t, power, width+1, append(make([]byte, width), 1), api.OK)
		wantBytes(t, math.MaxInt, width, nil, api.ErrRange)
	}
}

// P1.1, wrong inputs; R2: ErrArg is ahead of ErrRange.
func TestBytesWrong(t *testing.T) {
	for _, width := range []int{0, 9, -1, -8, 16, 64, 256, 257, math.MinInt, math.MaxInt} {
		for _, n := range []int{0, 1, 255, 256, -1, math.MinInt, math.MaxInt} {
			wantBytes(t, n, width, nil, api.ErrArg)
		}
	}
	for width := 1; width <= 8; width++ {
		for _, n := range []int{-1, -2, -255, -256, -257, math.MinInt, math.MinInt + 1} {
			wantBytes(t, n, width, nil, api.ErrArg)
		}
	}
}

// P1.2: ordinary numbers, and as many bytes as may be.
func TestInt(t *testing.T) {
	wantInt(t, []byte{2, 1}, 258, api.OK)
	wantInt(t, []byte{0}, 0, api.OK)
	wantInt(t, []byte{255}, 255, api.OK)
	wantInt(t, []byte{0, 0, 0, 0, 0, 0, 0, 1}, 1<<56, api.OK)
	for i := range 7 {
		b := make([]byte, 7)
		b[i] = 3
		wantInt(t, b, 3<<(8*i), api.OK)
	}
	random := rand.New(rand.NewSource(1))
	for range 2000 {
		b := make([]byte, 1+random.Intn(8))
		random.Read(b)
		want := intOf(b)
		if want.IsInt64() {
			wantInt(t, b, int(want.Int64()), api.OK)
		} else {
			wantInt(t, b, 0, api.ErrRange)
		}
	}
}

// P1.2, the edge of 2^63.
func TestIntEdges(t *testing.T) {
	wantInt(t, []byte{255, 255, 255, 255, 255, 255, 255, 127}, math.MaxInt, api.OK)
	wantInt(t, []byte{0, 0, 0, 0, 0, 0, 0, 128}, 0, api.ErrRange)
	wantInt(t, []byte{1, 0, 0, 0, 0, 0, 0, 128}, 0, api.ErrRange)
	wantInt(t, bytes.Repeat([]byte{255}, 8), 0, api.ErrRange)
	wantInt(t, bytes.Repeat([]byte{255}, 7), 1<<56-1, api.OK)
}

// P1.2, wrong inputs; R2: nine bytes are ErrArg, whatever number they would be.
func TestIntWrong(t *testing.T) {
	wantInt(t, nil, 0, api.ErrArg)
	wantInt(t, []byte{}, 0, api.ErrArg)
	wantInt(t, make([]byte, 9), 0, api.ErrArg)
	wantInt(t, bytes.Repeat([]byte{255}, 9), 0, api.ErrArg)
	wantInt(t, make([]byte, 16), 0, api.ErrArg)
	wantInt(t, make([]byte, 1000), 0, api.ErrArg)
}

// stands tells where a reader is, and fails unless Left and Place say so.
func stands(t *testing.T, r *le.Reader, place, left int) {
	t.Helper()
	if r.Place() != place || r.Left() != left {
		t.Errorf("Place %d, Left %d, want %d, %d", r.Place(), r.Left(), place, left)
	}
}

func wantReadInt(t *testing.T, r *le.Reader, width, want int, wantE api.Errno) {
	t.Helper()
	n, e := r.Int(width)
	if e != wantE || n != want {
		t.Errorf("Int(%d): %d %d, want %d %d", width, n, e, want, wantE)
	}
}

func wantTake(t *testing.T, r *le.Reader, n int, want []byte, wantE api.Errno) {
	t.Helper()
	b, e := r.Take(n)
	if e != wantE || !bytes.Equal(b, want) {
		t.Errorf("Take(%d): %x %d, want %x %d", n, b, e, want, wantE)
	}
	if e != api.OK && b != nil {
		t.Errorf("Take(%d): a list beside error %d", n, e)
	}
}

func wantZeros(t *testing.T, r *le.Reader, n int, wantE api.Errno) {
	t.Helper()
	if e := r.Zeros(n); e != wantE {
		t.Errorf("Zeros(%d): %d, want %d", n, e, wantE)
	}
}

// P1.3: the chapter's second example.
func TestReaderExample(t *testing.T) {
	r := le.On([]byte{2, 1, 0, 0, 7})
	stands(t, r, 0, 5)
	wantReadInt(t, r, 2, 258, api.OK)
	stands(t, r, 2, 3)
	wantZeros(t, r, 3, api.ErrForm)
	stands(t, r, 2, 3)
	wantZeros(t, r, 2, api.OK)
	stands(t, r, 4, 1)
	wantReadInt(t, r, 2, 0, api.ErrShort)
	stands(t, r, 4, 1)
	wantTake(t, r, 1, []byte{7}, api.OK)
	stands(t, r, 5, 0)
}

// P1.3: all kinds of calls behind one another, to the last byte and no further.
func TestReaderGoesToTheEnd(t *testing.T) {
	r := le.On([]byte{1, 2, 3, 4, 5, 6, 7, 8, 0, 0, 9})
	wantTake(t, r, 3, []byte{1, 2, 3}, api.OK)
	wantReadInt(t, r, 1, 4, api.OK)
	wantReadInt(t, r, 4, 0x08070605, api.OK)
	wantZeros(t, r, 2, api.OK)
	wantTake(t, r, 0, nil, api.OK)
	wantZeros(t, r, 0, api.OK)
	stands(t, r, 10, 1)
	wantTake(t, r, 2, nil, api.ErrShort)
	wantZeros(t, r, 2, api.ErrShort)
	wantReadInt(t, r, 8, 0, api.ErrShort)
	stands(t, r, 10, 1)
	wantReadInt(t, r, 1, 9, api.OK)
	wantTake(t, r, 0, nil, api.OK)
	wantZeros(t, r, 0, api.OK)
	wantTake(t, r, 1, nil, api.ErrShort)
	wantZeros(t, r, 1, api.ErrShort)
	wantReadInt(t, r, 1, 0, api.ErrShort)
	stands(t, r, 11, 0)
}

// P1.3: widths 1 and 8, and Int's own error, which doesn't move the reader.
func TestReaderIntEdges(t *testing.T) {
	r := le.On([]byte{255, 255, 255, 255, 255, 255, 255, 127, 128})
	wantReadInt(t, r, 8, math.MaxInt, api.OK)
	stands(t, r, 8, 1)

	r = le.On([]byte{127, 0, 0, 0, 0, 0, 0, 0, 128})
	wantReadInt(t, r, 1, 127, api.OK)
	wantReadInt(t, r, 8, 0, api.ErrRange)
	stands(t, r, 1, 8)
	wantReadInt(t, r, 7, 0, api.OK)
	wantReadInt(t, r, 1, 128, api.OK)
	stands(t, r, 9, 0)
}

// P1.3: Zeros finds a byte that isn't 0 wherever it stands, and looks at none behind the n.
func TestReaderZerosEdges(t *testing.T) {
	for n := 1; n <= 9; n++ {
		for at := range n {
			b := make([]byte, n)
			b[at] = 128
			r := le.On(b)
			wantZeros(t, r, n, api.ErrForm)
			stands(t, r, 0, n)
			wantZeros(t, r, at, api.OK)
			stands(t, r, at, n-at)
		}
	}
}

// P1.3, wrong inputs; R2: ErrArg is ahead of ErrShort, that is ahead of ErrForm and ErrRange; R5: none of them moves the reader.
func TestReaderWrong(t *testing.T) {
	for _, b := range [][]byte{nil, {}, {5}, {0, 0, 0}, bytes.Repeat([]byte{255}, 20)} {
		r := le.On(b)
		for _, width := range []int{0, 9, -1, 10, 20, 256, 257, math.MinInt, math.MaxInt} {
			wantReadInt(t, r, width, 0, api.ErrArg)
		}
		for _, n := range []int{-1, -2, -20, math.MinInt, math.MinInt + 1} {
			wantTake(t, r, n, nil, api.ErrArg)
			wantZeros(t, r, n, api.ErrArg)
		}
		for _, n := range []int{len(b) + 1, len(b) + 2, 1 << 40, math.MaxInt - 1, math.MaxInt} {
			wantTake(t, r, n, nil, api.ErrShort)
			wantZeros(t, r, n, api.ErrShort)
		}
		for width := len(b) + 1; width <= 8; width++ {
			wantReadInt(t, r, width, 0, api.ErrShort)
		}
		stands(t, r, 0, len(b))
	}
}

// P1.3, R7: from within the bytes the greatest counts don't wrap round to a place that is there.
func TestReaderGreatCounts(t *testing.T) {
	r := le.On([]byte{1, 2, 3, 4})
	wantTake(t, r, 3, []byte{1, 2, 3}, api.OK)
	for _, n := range []int{math.MaxInt, math.MaxInt - 1, math.MaxInt - 2, math.MaxInt - 3} {
		wantTake(t, r, n, nil, api.ErrShort)
		wantZeros(t, r, n, api.ErrShort)
	}
	stands(t, r, 3, 1)
}

// P1.3, R1: a nil reader, asked for anything.
func TestNilReader(t *testing.T) {
	var r *le.Reader
	for _, n := range []int{math.MinInt, -1, 0, 1, 2, 8, 9, math.MaxInt} {
		wantReadInt(t, r, n, 0, api.ErrArg)
		wantTake(t, r, n, nil, api.ErrArg)
		wantZeros(t, r, n, api.ErrArg)
	}
	stands(t, r, 0, 0)
}

// R1: a reader that nobody put on bytes stands on none.
func TestReaderOfNoBytes(t *testing.T) {
	for _, r := range []*le.Reader{new(le.Reader), le.On(nil), le.On([]byte{})} {
		stands(t, r, 0, 0)
		wantTake(t, r, 0, nil, api.OK)
		wantZeros(t, r, 0, api.OK)
		wantReadInt(t, r, 1, 0, api.ErrShort)
		stands(t, r, 0, 0)
	}
}

// P1.3, R4: the bytes may be written over behind On.
func TestReaderKeepsACopy(t *testing.T) {
	b := []byte{0, 0, 3, 4, 5}
	r := le.On(b)
	for i := range b {
		b[i] = 99
	}
	wantZeros(t, r, 2, api.OK)
	wantReadInt(t, r, 1, 3, api.OK)
	b[3] = 98
	wantTake(t, r, 2, []byte{4, 5}, api.OK)
	if !bytes.Equal(b, []byte{99, 99, 99, 98, 99}) {
		t.Errorf("what was handed in is now %v", b)
	}
}

// R4: an answer that is written over, or lengthened, changes nothing that is read later.
func TestAnswersAreNewMemory(t *testing.T) {
	b := []byte{1, 2, 3, 4}
	r := le.On(b)
	first, _ := r.Take(2)
	first[0] = 77
	_ = append(first[:cap(first)], 77, 77)
	clear(first[:cap(first)])
	wantTake(t, r, 2, []byte{3, 4}, api.OK)

	none, _ := le.On(b).Take(0)
	clear(none[:cap(none)])
	whole, _ := le.On(b).Take(4)
	clear(whole)
	if !bytes.Equal(b, []byte{1, 2, 3, 4}) {
		t.Errorf("what was handed in is now %v", b)
	}

	one, _ := le.Bytes(258, 2)
	clear(one[:cap(one)])
	wantBytes(t, 258, 2, []byte{2, 1}, api.OK)
}

// R4: the room behind a list's length is neither read nor changed, nor are its elements.
func TestRoomBehindIsLeftAlone(t *testing.T) {
	room := []byte{2, 1, 9, 9, 9, 9, 9, 9, 9, 9, 9, 9}
	was := bytes.Clone(room)
	wantInt(t, room[:2], 258, api.OK)
	wantInt(t, room[:0], 0, api.ErrArg)
	r := le.On(room[:2])
	stands(t, r, 0, 2)
	wantReadInt(t, r, 3, 0, api.ErrShort)
	wantTake(t, r, 3, nil, api.ErrShort)
	wantZeros(t, r, 3, api.ErrShort)
	wantReadInt(t, r, 2, 258, api.OK)
	wantTake(t, r, 1, nil, api.ErrShort)
	if !bytes.Equal(room, was) {
		t.Errorf("what was handed in is now %v", room)
	}
}

// R6: two readers on the same bytes know nothing of one another.
func TestReadersAreApart(t *testing.T) {
	b := []byte{1, 2, 3}
	one, other := le.On(b), le.On(b)
	wantTake(t, one, 2, []byte{1, 2}, api.OK)
	stands(t, other, 0, 3)
	wantTake(t, other, 3, []byte{1, 2, 3}, api.OK)
	stands(t, one, 2, 1)
}

// P1.4: what was written is read as it was.
func TestWrittenIsRead(t *testing.T) {
	for _, n := range numbers() {
		for width := 1; width <= 8; width++ {
			b, e := le.Bytes(n, width)
			if e != api.OK {
				continue
			}
			wantInt(t, b, n, api.OK)
			wantReadInt(t, le.On(b), width, n, api.OK)
		}
	}
}

// P1.4: what is read would be written so.
func TestReadIsWritten(t *testing.T) {
	random := rand.New(rand.NewSource(2))
	for range 2000 {
		b := make([]byte, 1+random.Intn(8))
		random.Read(b)
		n, e := le.Int(b)
		if e == api.OK {
			wantBytes(t, n, len(b), b, api.OK)
		}
	}
}

// P1.4: a row of numbers is read as it was written.
func TestRowIsRead(t *testing.T) {
	random := rand.New(rand.NewSource(3))
	for range 200 {
		var row []byte
		var list, widths []int
		for range random.Intn(20) {
			width := 1 + random.Intn(8)
			n := random.Int() >> (64 - 8*width)
			b, e := le.Bytes(n, width)
			if e != api.OK {
				t.Fatalf("Bytes(%d, %d): %d", n, width, e)
			}
			row, list, widths = append(row, b...), append(list, n), append(widths, width)
		}
		r := le.On(row)
		for i, n := range list {
			wantReadInt(t, r, widths[i], n, api.OK)
		}
		stands(t, r, len(row), 0)
	}
}

// P1.4: the lesser number has the lesser bytes, looked at from the last one on.
func TestOrderOfBytes(t *testing.T) {
	list := numbers()
	for width := 1; width <= 8; width++ {
		for _, m := range list {
			for _, n := range list {
				a, e := le.Bytes(m, width)
				b, f := le.Bytes(n, width)
				if e != api.OK || f != api.OK {
					continue
				}
				if (m < n) != (fromTheLast(a, b) < 0) || (m == n) != (fromTheLast(a, b) == 0) {
					t.Fatalf("%d is %x, %d is %x", m, a, n, b)
				}
			}
		}
	}
}

func fromTheLast(a, b []byte) int {
	for i := len(a) - 1; i >= 0; i-- {
		if a[i] != b[i] {
			return int(a[i]) - int(b[i])
		}
	}
	return 0
}

// model is a reader told by the words of P1.3 alone: what is left, and how many were read.
type model struct {
	left []byte
	read int
}

func (m *model) move(n int) {
	m.left, m.read = m.left[n:], m.read+n
}

func (m *model) int(width int) (int, api.Errno) {
	if width < 1 || width > 8 {
		return 0, api.ErrArg
	}
	if width > len(m.left) {
		return 0, api.ErrShort
	}
	n := intOf(m.left[:width])
	if !n.IsInt64() {
		return 0, api.ErrRange
	}
	m.move(width)
	return int(n.Int64()), api.OK
}

func (m *model) take(n int) ([]byte, api.Errno) {
	if n < 0 {
		return nil, api.ErrArg
	}
	if n > len(m.left) {
		return nil, api.ErrShort
	}
	b := m.left[:n]
	m.move(n)
	return b, api.OK
}

func (m *model) zeros(n int) api.Errno {
	if n < 0 {
		return api.ErrArg
	}
	if n > len(m.left) {
		return api.ErrShort
	}
	if bytes.Count(m.left[:n], []byte{0}) != n {
		return api.ErrForm
	}
	m.move(n)
	return api.OK
}

// P1.3, R6: many rows of calls are answered as the model answers them.
func TestReaderAsTold(t *testing.T) {
	random := rand.New(rand.NewSource(4))
	for turn := range 500 {
		b := make([]byte, random.Intn(60))
		for i := range b {
			b[i] = []byte{0, 0, 0, 1, 127, 128, 255, byte(random.Intn(256))}[random.Intn(8)]
		}
		r, m := le.On(b), &model{left: b}
		t.Run(strconv.Itoa(turn), func(t *testing.T) {
			for range 40 {
				n := random.Intn(12) - 1
				switch random.Intn(3) {
				case 0:
					want, e := m.int(n)
					wantReadInt(t, r, n, want, e)
				case 1:
					want, e := m.take(n)
					wantTake(t, r, n, want, e)
				case 2:
					wantZeros(t, r, n, m.zeros(n))
				}
				stands(t, r, m.read, len(m.left))
			}
		})
	}
}
