package page_test

import (
	"bytes"
	"encoding/binary"
	"hash/crc32"
	"math"
	"math/rand"
	"slices"
	"testing"

	"octavo/api"
	"octavo/page"
)

// head is how many bytes of a page stand ahead of its body.
const head = api.Page - api.Body

// goodNumbers are the ends of what a page's number may be, and some between; one has three bytes of which none is like another.
func goodNumbers() []int {
	return []int{0, 1, 3, 255, 256, 257, 65535, 65536, 0x0a0b0c, api.MaxPages - 2, api.MaxPages - 1}
}

// badNumbers are beyond the ends: some of them are good ones in fewer bits.
func badNumbers() []int {
	return []int{-1, -2, -256, -api.MaxPages, math.MinInt32, math.MinInt, math.MinInt + 3,
		api.MaxPages, api.MaxPages + 1, 1 << 21, 1 << 24, 1<<24 + 3, math.MaxInt32, math.MaxUint32, 1 << 32, 1<<32 + 3, math.MaxInt}
}

func badKinds() []int {
	return []int{0, -1, -2, -255, math.MinInt32, math.MinInt, math.MinInt + 1,
		10, 11, 127, 128, 255, 256, 257, 1<<16 + 1, 1<<32 + 1, math.MaxInt}
}

// lengths are those of bodies that may be.
func lengths() []int { return []int{0, 1, 2, 7, 64, 128, 242, 243, 244} }

// bodyOf answers a body of n bytes of which none is 0.
func bodyOf(n int) []byte {
	b := make([]byte, n)
	for i := range b {
		b[i] = byte(i%255 + 1)
	}
	return b
}

// summed sets a page's sum right, whatever else stands there.
func summed(b []byte) []byte {
	b = bytes.Clone(b)
	binary.LittleEndian.PutUint32(b[8:], crc32.ChecksumIEEE(slices.Concat(b[:8], b[12:])))
	return b
}

// pageOf lays a page as the chapter tells it.
func pageOf(no, kind int, body []byte) []byte {
	b := []byte{byte(kind), 0}
	b = binary.LittleEndian.AppendUint16(b, uint16(len(body)))
	b = binary.LittleEndian.AppendUint32(b, uint32(no))
	b = append(b, 0, 0, 0, 0)
	b = append(b, body...)
	return summed(append(b, make([]byte, api.Page-len(b))...))
}

// openOf asks one thing after the other, as P5.2 does.
func openOf(no int, b []byte) (int, []byte, api.Errno) {
	switch {
	case no < 0 || no > 1<<20-1:
		return 0, nil, api.ErrArg
	case len(b) != 256:
		return 0, nil, api.ErrShort
	case !bytes.Equal(b, summed(b)):
		return 0, nil, api.ErrSum
	}
	kind, n, number := int(b[0]), int(b[2])+256*int(b[3]), int(binary.LittleEndian.Uint32(b[4:]))
	if kind < 1 || kind > 9 || b[1] != 0 || n > 244 || number != no {
		return 0, nil, api.ErrForm
	}
	for _, x := range b[12+n:] {
		if x != 0 {
			return 0, nil, api.ErrForm
		}
	}
	return kind, b[12 : 12+n], api.OK
}

func wantPack(t *testing.T, no, kind int, body, want []byte, wantE api.Errno) {
	t.Helper()
	b, e := page.Pack(no, kind, body)
	if e != wantE || !bytes.Equal(b, want) {
		t.Errorf("Pack(%d, %d, %d bytes): %x %d, want %x %d", no, kind, len(body), b, e, want, wantE)
	}
}

func wantOpen(t *testing.T, no int, b []byte, wantKind int, want []byte, wantE api.Errno) {
	t.Helper()
	kind, body, e := page.Open(no, b)
	if e != wantE || kind != wantKind || !bytes.Equal(body, want) {
		t.Errorf("Open(%d, %x): %d %x %d, want %d %x %d", no, b, kind, body, e, wantKind, want, wantE)
	}
}

// wantRefused holds a refusal's other results to be zero values, too.
func wantRefused(t *testing.T, no int, b []byte, want api.Errno) {
	t.Helper()
	wantOpen(t, no, b, 0, nil, want)
}

// The chapter's examples.
func TestExamples(t *testing.T) {
	b, e := page.Pack(3, 2, []byte{7})
	if e != api.OK || len(b) != 256 {
		t.Fatalf("%d bytes, %d", len(b), e)
	}
	if !bytes.Equal(b[:8], []byte{2, 0, 1, 0, 3, 0, 0, 0}) || b[12] != 7 || !bytes.Equal(b[13:], make([]byte, 243)) {
		t.Errorf("%x", b)
	}
	wantOpen(t, 3, b, 2, []byte{7}, api.OK)
	wantRefused(t, 4, b, api.ErrForm)
	b[12] = 6
	wantRefused(t, 3, b, api.ErrSum)
}

// P5.1, pages by hand with sums that are known elsewhere, so that the model above stands for something.
func TestPackByHand(t *testing.T) {
	rising := make([]byte, 244)
	for i := range rising {
		rising[i] = byte(i)
	}
	for _, c := range []struct {
		no, kind   int
		body, head []byte
	}{
		{3, 2, []byte{7}, []byte{2, 0, 1, 0, 3, 0, 0, 0, 0xf2, 0x95, 0xa9, 0x73}},
		{0, 1, nil, []byte{1, 0, 0, 0, 0, 0, 0, 0, 0x92, 0xa1, 0x9a, 0xa5}},
		{1<<20 - 1, 9, bytes.Repeat([]byte{255}, 244), []byte{9, 0, 244, 0, 255, 255, 15, 0, 0x9e, 0x6f, 0x6b, 0xb2}},
		{0x0a0b0c, 5, rising, []byte{5, 0, 244, 0, 12, 11, 10, 0, 0xde, 0x5d, 0x35, 0x82}},
	} {
		want := slices.Concat(c.head, c.body, make([]byte, 244-len(c.body)))
		wantPack(t, c.no, c.kind, c.body, want, api.OK)
		wantOpen(t, c.no, want, c.kind, c.body, api.OK)
	}
}

// P5.1: all kinds, numbers and lengths at their ends and between; P5.3: what was packed is opened as it was, and packed again the same.
func TestPackAndOpen(t *testing.T) {
	for _, no := range goodNumbers() {
		for kind := 1; kind <= 9; kind++ {
			for _, n := range lengths() {
				body := bodyOf(n)
				b := pageOf(no, kind, body)
				wantPack(t, no, kind, body, b, api.OK)
				wantOpen(t, no, b, kind, body, api.OK)
			}
		}
	}
}

// P5.1, P5.3: bodies of all lengths, full of 0 and full of ones: bytes 0 at a body's end count.
func TestAllLengths(t *testing.T) {
	for n := range api.Body + 1 {
		for _, x := range []byte{0, 1, 255} {
			body := bytes.Repeat([]byte{x}, n)
			b := pageOf(8, 4, body)
			wantPack(t, 8, 4, body, b, api.OK)
			wantOpen(t, 8, b, 4, body, api.OK)
		}
	}
}

// P5.1: a body of no bytes is the same, nil or empty.
func TestPackNothing(t *testing.T) {
	wantPack(t, 5, 6, nil, pageOf(5, 6, nil), api.OK)
	wantPack(t, 5, 6, []byte{}, pageOf(5, 6, nil), api.OK)
	wantPack(t, 5, 6, make([]byte, 9)[:0], pageOf(5, 6, nil), api.OK)
}

// P5.1, wrong numbers and kinds; R2: each of them, and both, ahead of a body that is too long.
func TestPackWrong(t *testing.T) {
	for _, body := range [][]byte{nil, {7}, make([]byte, 244), make([]byte, 245), make([]byte, 70000)} {
		for _, no := range badNumbers() {
			wantPack(t, no, 1, body, nil, api.ErrArg)
			wantPack(t, no, 9, body, nil, api.ErrArg)
		}
		for _, kind := range badKinds() {
			wantPack(t, 0, kind, body, nil, api.ErrArg)
			wantPack(t, api.MaxPages-1, kind, body, nil, api.ErrArg)
		}
		wantPack(t, -1, 0, body, nil, api.ErrArg)
		wantPack(t, api.MaxPages, 10, body, nil, api.ErrArg)
	}
}

// P5.1: bodies that are too long, also those whose length has a good one's lower bytes.
func TestPackBig(t *testing.T) {
	for _, n := range []int{245, 246, 255, 256, 257, 65535, 65536, 65537, 1 << 20} {
		for _, no := range goodNumbers() {
			wantPack(t, no, 1, make([]byte, n), nil, api.ErrBig)
			wantPack(t, no, 9, make([]byte, n), nil, api.ErrBig)
		}
	}
}

// P5.2, wrong numbers; R2: ahead of all that may be wrong with the bytes.
func TestOpenWrong(t *testing.T) {
	good := pageOf(3, 2, []byte{7})
	turned := bytes.Clone(good)
	turned[12]++
	for _, no := range badNumbers() {
		for _, b := range [][]byte{nil, good, good[:255], append(good, 0), turned, summed(make([]byte, 256)), pageOf(no, 2, []byte{7})} {
			wantRefused(t, no, b, api.ErrArg)
		}
	}
}

// P5.2: none, too few and too many bytes; R2: ahead of the sum and the form; R4: what stands in the room behind doesn't count.
func TestOpenShort(t *testing.T) {
	b := append(pageOf(3, 2, []byte{7}), make([]byte, 256)...)
	wantRefused(t, 3, nil, api.ErrShort)
	for n := range len(b) + 1 {
		if n != 256 {
			wantRefused(t, 3, b[:n], api.ErrShort)
			wantRefused(t, 4, b[:n], api.ErrShort)
		}
	}
	wantOpen(t, 3, b[:256], 2, []byte{7}, api.OK)
	for _, n := range []int{1, 11, 12, 255, 257, 512, 70000} {
		wantRefused(t, 0, make([]byte, n), api.ErrShort)
		wantRefused(t, api.MaxPages-1, bytes.Repeat([]byte{255}, n), api.ErrShort)
	}
}

// P5.2: a page without a form isn't one with a sum either; R2: the sum is ahead of all that the form asks for.
func TestOpenSumIsAheadOfForm(t *testing.T) {
	wantRefused(t, 0, make([]byte, 256), api.ErrSum)
	wantRefused(t, 0, bytes.Repeat([]byte{255}, 256), api.ErrSum)
	good := pageOf(3, 2, []byte{7})
	for _, fault := range []struct {
		at int
		to byte
	}{{0, 0}, {0, 10}, {1, 1}, {2, 0}, {2, 245}, {3, 255}, {4, 4}, {7, 1}, {13, 1}, {255, 1}} {
		b := bytes.Clone(good)
		b[fault.at] = fault.to
		wantRefused(t, 3, b, api.ErrSum)
		wantRefused(t, 4, b, api.ErrSum)
		wantRefused(t, 3, summed(b), api.ErrForm)
	}
}

// P5.2: each byte of the sum counts.
func TestOpenSum(t *testing.T) {
	for i := range 4 {
		for x := 1; x < 256; x++ {
			b := pageOf(3, 2, []byte{7})
			b[8+i] ^= byte(x)
			wantRefused(t, 3, b, api.ErrSum)
		}
	}
}

// P5.2: all kinds that a byte can tell, the sum set right.
func TestOpenKinds(t *testing.T) {
	for kind := range 256 {
		b := pageOf(3, kind, []byte{7})
		if kind >= 1 && kind <= 9 {
			wantOpen(t, 3, b, kind, []byte{7}, api.OK)
		} else {
			wantRefused(t, 3, b, api.ErrForm)
		}
	}
}

// P5.2: the byte behind the kind has to be 0, the sum set right.
func TestOpenByteBehindKind(t *testing.T) {
	for x := 1; x < 256; x++ {
		b := pageOf(3, 2, []byte{7})
		b[1] = byte(x)
		wantRefused(t, 3, summed(b), api.ErrForm)
	}
}

// P5.2: all lengths that two bytes can tell, with the sum set right, of a page that is full and of one that is empty.
func TestOpenLengths(t *testing.T) {
	full, empty := pageOf(3, 2, bodyOf(244)), pageOf(3, 2, nil)
	for n := range 1 << 16 {
		binary.LittleEndian.PutUint16(full[2:], uint16(n))
		binary.LittleEndian.PutUint16(empty[2:], uint16(n))
		if n == 244 {
			wantOpen(t, 3, summed(full), 2, bodyOf(244), api.OK)
		} else {
			wantRefused(t, 3, summed(full), api.ErrForm)
		}
		if n <= 244 {
			wantOpen(t, 3, summed(empty), 2, make([]byte, n), api.OK)
		} else {
			wantRefused(t, 3, summed(empty), api.ErrForm)
		}
	}
}

// P5.2, P5.3: a page is refused as any other one.
func TestOpenAsAnotherOne(t *testing.T) {
	for _, no := range goodNumbers() {
		b := pageOf(no, 2, []byte{7})
		for _, other := range goodNumbers() {
			if other == no {
				wantOpen(t, other, b, 2, []byte{7}, api.OK)
			} else {
				wantRefused(t, other, b, api.ErrForm)
			}
		}
		for i := range 20 {
			wantRefused(t, no^1<<i, b, api.ErrForm)
		}
	}
}

// P5.2: a page whose bytes tell a number that none may have is nobody's, the sum set right.
func TestOpenNumbersBeyond(t *testing.T) {
	for _, told := range badNumbers() {
		b := pageOf(told, 2, []byte{7})
		if low := int(uint32(told)); low < api.MaxPages {
			wantOpen(t, low, b, 2, []byte{7}, api.OK)
			continue
		}
		for _, no := range append(goodNumbers(), told&(api.MaxPages-1), told&0xffff, told&0xff) {
			wantRefused(t, no, b, api.ErrForm)
		}
	}
}

// P5.2: each byte behind a body, alone, the sum set right; the last one of the body may be anything.
func TestOpenBehindBody(t *testing.T) {
	for _, n := range lengths() {
		for at := head + n; at < api.Page; at++ {
			for _, x := range []byte{1, 128, 255} {
				b := pageOf(3, 2, bodyOf(n))
				b[at] = x
				wantRefused(t, 3, summed(b), api.ErrForm)
			}
		}
		if n > 0 {
			b := pageOf(3, 2, bodyOf(n))
			b[head+n-1] = 0
			wantOpen(t, 3, summed(b), 2, b[head:head+n], api.OK)
		}
	}
}

// P5.2, P5.3: each byte of the form turned to each other one, the sum set right: what is opened then would have been packed so.
func TestEachByteTurned(t *testing.T) {
	for _, good := range [][]byte{pageOf(3, 2, []byte{7}), pageOf(3, 9, nil), pageOf(3, 1, bodyOf(200))} {
		for at := range api.Page {
			for x := 1; x < 256; x++ {
				b := bytes.Clone(good)
				b[at] ^= byte(x)
				b = summed(b)
				kind, body, e := openOf(3, b)
				wantOpen(t, 3, b, kind, body, e)
				if e == api.OK {
					wantPack(t, 3, kind, body, b, api.OK)
				}
			}
		}
	}
}

// P5.3: with any one bit turned a page is refused: by its sum, as itself and as the one whose number it tells then.
func TestEachBitTurned(t *testing.T) {
	for _, no := range []int{0, 3, 0x0a0b0c, api.MaxPages - 1} {
		for _, n := range lengths() {
			b := pageOf(no, 2, bodyOf(n))
			for i := range 8 * api.Page {
				b[i/8] ^= 1 << (i % 8)
				wantRefused(t, no, b, api.ErrSum)
				wantRefused(t, int(binary.LittleEndian.Uint32(b[4:]))&(api.MaxPages-1), b, api.ErrSum)
				b[i/8] ^= 1 << (i % 8)
			}
			wantOpen(t, no, b, 2, bodyOf(n), api.OK)
		}
	}
}

// randomBytes answers bytes of which many are 0 or small.
func randomBytes(random *rand.Rand, n int) []byte {
	b := make([]byte, n)
	for i := range b {
		b[i] = byte(random.Intn(256) >> random.Intn(9))
	}
	return b
}

// P5.2, P5.3, R1: pages with some bytes turned, most with a right sum, and bytes of any kind and number.
func TestRandomPages(t *testing.T) {
	random := rand.New(rand.NewSource(1))
	opened := 0
	for range 40000 {
		no := random.Intn(api.MaxPages)
		b := pageOf(no, 1+random.Intn(9), randomBytes(random, random.Intn(245)))
		for range random.Intn(4) {
			b[random.Intn(random.Intn(256)+1)] = randomBytes(random, 1)[0]
		}
		if random.Intn(4) > 0 {
			b = summed(b)
		}
		kind, body, e := openOf(no, b)
		wantOpen(t, no, b, kind, body, e)
		if e == api.OK {
			opened++
			wantPack(t, no, kind, body, b, api.OK)
		}
		b = randomBytes(random, random.Intn(400))
		kind, body, e = openOf(no, b)
		wantOpen(t, no, b, kind, body, e)
	}
	if opened < 10000 || opened > 35000 {
		t.Errorf("%d of 40000 pages were opened: these tell little", opened)
	}
}

// R4: Pack doesn't read the room behind a body, and changes nothing of it.
func TestPackLeavesBodyAlone(t *testing.T) {
	room := bodyOf(244)
	for _, n := range []int{0, 1, 100, 243, 244} {
		wantPack(t, 3, 2, room[:n], pageOf(3, 2, bodyOf(n)), api.OK)
	}
	wantPack(t, 3, 0, room[:9], nil, api.ErrArg)
	if !bytes.Equal(room, bodyOf(244)) {
		t.Errorf("the body is now %x", room)
	}
}

// R4: Open changes nothing of what it is handed, refused or not, and not the room behind it.
func TestOpenLeavesPageAlone(t *testing.T) {
	room := append(pageOf(3, 2, bodyOf(200)), bodyOf(50)...)
	before := bytes.Clone(room)
	for _, no := range []int{3, 4, -1} {
		for _, n := range []int{0, 255, 256, 257} {
			page.Open(no, room[:n])
		}
	}
	room[20] ^= 1
	page.Open(3, room[:256])
	room[20] ^= 1
	if !bytes.Equal(room, before) {
		t.Errorf("the page is now %x", room)
	}
}

// fill writes over all bytes, and over the room behind them.
func fill(b []byte) {
	b = b[:cap(b)]
	for i := range b {
		b[i] = 0xee
	}
}

// R4: a page is new memory: neither the body nor another page shares it.
func TestPackAnswersNewMemory(t *testing.T) {
	body := bodyOf(244)
	first, _ := page.Pack(3, 2, body)
	second, _ := page.Pack(3, 2, body)
	fill(first)
	if !bytes.Equal(body, bodyOf(244)) {
		t.Error("a page shares memory with its body")
	}
	fill(body)
	if !bytes.Equal(second, pageOf(3, 2, bodyOf(244))) {
		t.Error("a page shares memory with its body, or with another page")
	}
	wantPack(t, 3, 2, bodyOf(9), pageOf(3, 2, bodyOf(9)), api.OK)
}

// R4: a body is new memory: neither the page nor another body shares it.
func TestOpenAnswersNewMemory(t *testing.T) {
	for _, n := range lengths() {
		b := pageOf(3, 2, bodyOf(n))
		_, first, _ := page.Open(3, b)
		_, second, _ := page.Open(3, b)
		fill(first)
		if !bytes.Equal(b, pageOf(3, 2, bodyOf(n))) {
			t.Errorf("a body of %d bytes shares memory with its page", n)
		}
		fill(b)
		if !bytes.Equal(second, bodyOf(n)) {
			t.Errorf("a body of %d bytes shares memory with its page, or with another body", n)
		}
		wantOpen(t, 3, pageOf(3, 2, bodyOf(n)), 2, bodyOf(n), api.OK)
	}
}

// R6: what was asked ahead counts for nothing.
func TestCallsAreApart(t *testing.T) {
	good, bad := pageOf(3, 2, bodyOf(244)), pageOf(3, 0, nil)
	for range 3 {
		wantOpen(t, 3, good, 2, bodyOf(244), api.OK)
		wantRefused(t, 3, bad, api.ErrForm)
		wantPack(t, 3, 2, bodyOf(244), good, api.OK)
		wantPack(t, 3, 2, nil, pageOf(3, 2, nil), api.OK)
		wantPack(t, 3, 2, bodyOf(245), nil, api.ErrBig)
		wantRefused(t, 4, good, api.ErrForm)
	}
}

// P5.1 to P5.3: numbers all over what may be, each page opened as itself and refused as the one ahead of it.
func TestManyNumbers(t *testing.T) {
	for no := 0; no < api.MaxPages; no += 101 {
		b := pageOf(no, 2, []byte{7})
		wantPack(t, no, 2, []byte{7}, b, api.OK)
		wantOpen(t, no, b, 2, []byte{7}, api.OK)
		if no > 0 {
			wantRefused(t, no-1, b, api.ErrForm)
		}
	}
}

// The limits that the chapter tells in figures.
func TestLimits(t *testing.T) {
	if api.Page != 256 || api.Body != 244 || api.MaxPages != 1<<20 {
		t.Error("api's limits are others than the chapter's")
	}
}
