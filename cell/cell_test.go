package cell_test

import (
	"encoding/binary"
	"hash/crc32"
	"math"
	"math/rand"
	"slices"
	"strings"
	"testing"

	"allotment/api"
	"allotment/cell"
)

// noughts are n bytes 0.
func noughts(n int) string { return strings.Repeat("\x00", n) }

// row is n bytes of which no two are the same.
func row(n int) string {
	b := make([]byte, n)
	for i := range b {
		b[i] = byte('0' + i)
	}
	return string(b)
}

// drawn is n bytes by chance.
func drawn(rnd *rand.Rand, n int) string {
	b := make([]byte, n)
	rnd.Read(b)
	return string(b)
}

// someOf are texts of n bytes.
func someOf(n int) []string {
	texts := []string{noughts(n), strings.Repeat("\xff", n), row(n)}
	rnd := rand.New(rand.NewSource(int64(n)))
	for range 30 {
		texts = append(texts, drawn(rnd, n))
	}
	return texts
}

// lengths are those of bytes about all lengths that the chapter names, and
// such as are one of them if some bits are not looked at.
func lengths() []int {
	var l []int
	for n := range 70 {
		l = append(l, n)
	}
	return append(l, 128, 255, 256, 256+16, 256+20, 256+32, 1<<16+16, 1<<16+20, 1<<16+32)
}

// far are numbers that are no places of a page and no lengths in it.
func far() []int {
	return []int{-1, -2, -15, -16, -17, -31, -32, -33, -256, -1 << 31, -1 << 32, -1<<32 + 3, -1 << 62, math.MinInt, math.MinInt + 1, math.MinInt + 16, math.MinInt + 32,
		33, 34, 48, 64, 255, 256, 256 + 3, 1 << 16, 1 << 31, 1 << 32, 1<<32 + 1, 1<<32 + 16, 1<<32 + 32, 1<<56 + 2, 1 << 62, 1<<62 + 1, math.MaxInt - 32, math.MaxInt - 31, math.MaxInt - 1, math.MaxInt}
}

// roomy is a text in a list with spare room, which holds the byte r.
func roomy(s string, room int) []byte {
	whole := []byte(s + strings.Repeat("r", room))
	return whole[:len(s):len(whole)]
}

// fill writes into a list and all of its room.
func fill(b []byte, x byte) {
	b = b[:cap(b)]
	for i := range b {
		b[i] = x
	}
}

// sealed is a text with its check behind it, told by the library.
func sealed(s string) string {
	return string(binary.LittleEndian.AppendUint32([]byte(s), crc32.ChecksumIEEE([]byte(s))))
}

// isThere says whether n bytes from off on are within a page, by going through
// all those that are.
func isThere(off, n int) bool {
	for from := range 33 {
		for to := from; to < 33; to++ {
			if off == from && n == to-from {
				return true
			}
		}
	}
	return false
}

// piece is what Get must tell of a page.
func piece(page string, off, n int) (string, api.Errno) {
	switch {
	case len(page) != 32:
		return "", api.ErrForm
	case !isThere(off, n):
		return "", api.ErrRange
	}
	return page[off : off+n], api.OK
}

// changed is what Put must tell of a page.
func changed(page string, off int, s string) (string, api.Errno) {
	if _, e := piece(page, off, len(s)); e != api.OK {
		return "", e
	}
	return page[:off] + s + page[off+len(s):], api.OK
}

// wantSeal holds Seal against what it should tell.
func wantSeal(t *testing.T, s, want string, errno api.Errno) {
	t.Helper()
	if c, e := cell.Seal([]byte(s)); string(c) != want || e != errno {
		t.Errorf("Seal(%q): %q, %d; want %q, %d", s, c, e, want, errno)
	}
}

// wantOpen holds Open against what it should tell.
func wantOpen(t *testing.T, s, want string, errno api.Errno) {
	t.Helper()
	if b, e := cell.Open([]byte(s)); string(b) != want || e != errno {
		t.Errorf("Open(%q): %q, %d; want %q, %d", s, b, e, want, errno)
	}
}

// texts are lists of bytes as texts.
func texts(l [][]byte) []string {
	var s []string
	for _, b := range l {
		s = append(s, string(b))
	}
	return s
}

// lists are texts as lists of bytes.
func lists(l []string) [][]byte {
	var b [][]byte
	for _, s := range l {
		b = append(b, []byte(s))
	}
	return b
}

// wantSplit holds Split against what it should tell.
func wantSplit(t *testing.T, page string, errno api.Errno, want ...string) {
	t.Helper()
	if l, e := cell.Split([]byte(page)); !slices.Equal(texts(l), want) || e != errno {
		t.Errorf("Split(%q): %q, %d; want %q, %d", page, l, e, want, errno)
	}
}

// wantJoin holds Join against what it should tell.
func wantJoin(t *testing.T, want string, errno api.Errno, sectors ...string) {
	t.Helper()
	if p, e := cell.Join(lists(sectors)...); string(p) != want || e != errno {
		t.Errorf("Join(%q): %q, %d; want %q, %d", sectors, p, e, want, errno)
	}
}

// wantGet holds Get against what it should tell.
func wantGet(t *testing.T, page string, off, n int, want string, errno api.Errno) {
	t.Helper()
	if b, e := cell.Get([]byte(page), off, n); string(b) != want || e != errno {
		t.Errorf("Get(%q, %d, %d): %q, %d; want %q, %d", page, off, n, b, e, want, errno)
	}
}

// wantPut holds Put against what it should tell.
func wantPut(t *testing.T, page string, off int, s, want string, errno api.Errno) {
	t.Helper()
	if p, e := cell.Put([]byte(page), off, []byte(s)); string(p) != want || e != errno {
		t.Errorf("Put(%q, %d, %q): %q, %d; want %q, %d", page, off, s, p, e, want, errno)
	}
}

// P8.1

func TestSealIsTheBytesAndTheirCheck(t *testing.T) {
	for _, s := range someOf(16) {
		wantSeal(t, s, sealed(s), api.OK)
	}
	wantSeal(t, noughts(16), noughts(16)+"\x55\x4b\xbb\xec", api.OK)
}

func TestSealOfAnotherLength(t *testing.T) {
	for _, n := range lengths() {
		if n != 16 {
			wantSeal(t, row(n), "", api.ErrForm)
			wantSeal(t, noughts(n), "", api.ErrForm)
		}
	}
	wantSeal(t, sealed(row(16)), "", api.ErrForm)
	if c, e := cell.Seal(nil); len(c) != 0 || e != api.ErrForm {
		t.Errorf("Seal(nil): %q, %d", c, e)
	}
}

func TestOpenIsTheSectorsBytes(t *testing.T) {
	for _, s := range someOf(16) {
		wantOpen(t, sealed(s), s, api.OK)
	}
	wantOpen(t, noughts(16)+"\x55\x4b\xbb\xec", noughts(16), api.OK)
}

// The length comes ahead of the check: of other lengths a right check is no
// cell's, and a wrong one is ErrForm all the same.
func TestOpenOfAnotherLength(t *testing.T) {
	for _, n := range lengths() {
		if n == 16 {
			continue
		}
		wantOpen(t, sealed(row(n)), "", api.ErrForm)
		wantOpen(t, sealed(noughts(n)), "", api.ErrForm)
	}
	for _, n := range lengths() {
		if n == 20 {
			continue
		}
		wantOpen(t, row(n), "", api.ErrForm)
		wantOpen(t, noughts(n), "", api.ErrForm)
	}
	whole := sealed(row(16))
	for n := range 20 {
		wantOpen(t, whole[:n], "", api.ErrForm)
		wantOpen(t, whole[20-n:], "", api.ErrForm)
	}
	for x := range 256 {
		more := string([]byte{byte(x)})
		wantOpen(t, whole+more, "", api.ErrForm)
		wantOpen(t, more+whole, "", api.ErrForm)
	}
	wantOpen(t, whole+whole, "", api.ErrForm)
	if b, e := cell.Open(nil); len(b) != 0 || e != api.ErrForm {
		t.Errorf("Open(nil): %q, %d", b, e)
	}
}

func TestOpenOfAByteThatIsTurned(t *testing.T) {
	for _, s := range []string{noughts(16), strings.Repeat("\xff", 16), row(16)} {
		b := []byte(sealed(s))
		for i := range b {
			was := b[i]
			for x := range 256 {
				if b[i] = byte(x); b[i] != was {
					wantOpen(t, string(b), "", api.ErrIO)
				}
			}
			b[i] = was
		}
		wantOpen(t, string(b), s, api.OK)
	}
}

func TestOpenOfAnotherCheck(t *testing.T) {
	s, whole := row(16), sealed(row(16))
	for _, other := range []string{
		noughts(20),
		strings.Repeat("\xff", 20),
		noughts(16) + "\xec\xbb\x4b\x55", // the highest byte first
		whole[16:] + s,                   // ahead of the bytes
		s + sealed(noughts(16))[16:],     // another sector's
		noughts(16) + whole[16:],
		whole[1:] + whole[:1],
		whole[:14] + whole[15:16] + whole[14:15] + whole[16:], // two bytes changed their places
	} {
		wantOpen(t, other, "", api.ErrIO)
	}
}

func TestZero(t *testing.T) {
	if b := cell.Zero(); string(b) != noughts(16) {
		t.Errorf("%q", b)
	}
}

// P8.2

func TestSplitIsBothSectors(t *testing.T) {
	wantSplit(t, "0123456789abcdefghijklmnopqrstuv", api.OK, "0123456789abcdef", "ghijklmnopqrstuv")
	for _, s := range someOf(32) {
		wantSplit(t, s, api.OK, s[:16], s[16:])
	}
}

func TestSplitOfAnotherLength(t *testing.T) {
	for _, n := range lengths() {
		if n != 32 {
			wantSplit(t, row(n), api.ErrForm)
			wantSplit(t, noughts(n), api.ErrForm)
		}
	}
	if l, e := cell.Split(nil); len(l) != 0 || e != api.ErrForm {
		t.Errorf("Split(nil): %q, %d", l, e)
	}
}

func TestJoinIsOneBehindTheOther(t *testing.T) {
	wantJoin(t, "0123456789abcdefghijklmnopqrstuv", api.OK, "0123456789abcdef", "ghijklmnopqrstuv")
	wantJoin(t, "ghijklmnopqrstuv0123456789abcdef", api.OK, "ghijklmnopqrstuv", "0123456789abcdef")
	for _, a := range someOf(16) {
		for _, b := range someOf(16) {
			wantJoin(t, a+b, api.OK, a, b)
		}
	}
}

func TestJoinOfNotTwo(t *testing.T) {
	if p, e := cell.Join(); len(p) != 0 || e != api.ErrForm {
		t.Errorf("Join(): %q, %d", p, e)
	}
	for n := range 20 {
		if n != 2 {
			wantJoin(t, "", api.ErrForm, slices.Repeat([]string{row(16)}, n)...)
			wantJoin(t, "", api.ErrForm, slices.Repeat([]string{""}, n)...)
		}
	}
	// As many bytes as a page has are none, if they are not two sectors.
	wantJoin(t, "", api.ErrForm, row(32))
	wantJoin(t, "", api.ErrForm, row(16), row(16), "")
	wantJoin(t, "", api.ErrForm, row(16), "", row(16))
	wantJoin(t, "", api.ErrForm, "", row(16), row(16))
	wantJoin(t, "", api.ErrForm, row(8), row(8), row(16))
	wantJoin(t, "", api.ErrForm, row(8), row(8), row(8), row(8))
}

func TestJoinOfOtherLengths(t *testing.T) {
	for _, n := range lengths() {
		if n != 16 {
			wantJoin(t, "", api.ErrForm, row(n), row(16))
			wantJoin(t, "", api.ErrForm, row(16), row(n))
			wantJoin(t, "", api.ErrForm, row(n), row(n))
		}
	}
	for n := range 33 {
		if n != 16 {
			wantJoin(t, "", api.ErrForm, row(n), row(32-n)) // as many as a page has, cut elsewhere
		}
	}
	for _, l := range [][][]byte{{nil, nil}, {[]byte(row(16)), nil}, {nil, []byte(row(16))}} {
		if p, e := cell.Join(l...); len(p) != 0 || e != api.ErrForm {
			t.Errorf("Join(%q): %q, %d", l, p, e)
		}
	}
}

// P8.3

func TestPutOverTheBorder(t *testing.T) {
	page, e := cell.Put([]byte(noughts(32)), 15, []byte{7, 8})
	if e != api.OK {
		t.Fatal(e)
	}
	wantSplit(t, string(page), api.OK, noughts(15)+"\x07", "\x08"+noughts(15))
	wantGet(t, string(page), 15, 2, "\x07\x08", api.OK)
	wantGet(t, string(page), 14, 4, "\x00\x07\x08\x00", api.OK)
}

func TestGetOfKnownPieces(t *testing.T) {
	page := "0123456789abcdefghijklmnopqrstuv"
	wantGet(t, page, 0, 0, "", api.OK)
	wantGet(t, page, 7, 0, "", api.OK)
	wantGet(t, page, 32, 0, "", api.OK)
	wantGet(t, page, 0, 1, "0", api.OK)
	wantGet(t, page, 0, 16, "0123456789abcdef", api.OK)
	wantGet(t, page, 15, 3, "fgh", api.OK)
	wantGet(t, page, 16, 16, "ghijklmnopqrstuv", api.OK)
	wantGet(t, page, 31, 1, "v", api.OK)
	wantGet(t, page, 0, 32, page, api.OK)
	wantGet(t, page, 0, 33, "", api.ErrRange)
	wantGet(t, page, 1, 32, "", api.ErrRange)
	wantGet(t, page, 16, 17, "", api.ErrRange)
	wantGet(t, page, 31, 2, "", api.ErrRange)
	wantGet(t, page, 32, 1, "", api.ErrRange)
	wantGet(t, page, 33, 0, "", api.ErrRange)
	wantGet(t, page, 33, -1, "", api.ErrRange)
	wantGet(t, page, -1, 0, "", api.ErrRange)
	wantGet(t, page, -1, 2, "", api.ErrRange)
	wantGet(t, page, 1, -1, "", api.ErrRange)
	wantGet(t, page, -16, 32, "", api.ErrRange)
}

func TestPutOfKnownPieces(t *testing.T) {
	page := "0123456789abcdefghijklmnopqrstuv"
	wantPut(t, page, 0, "", page, api.OK)
	wantPut(t, page, 7, "", page, api.OK)
	wantPut(t, page, 32, "", page, api.OK)
	wantPut(t, page, 0, "X", "X123456789abcdefghijklmnopqrstuv", api.OK)
	wantPut(t, page, 14, "WXYZ", "0123456789abcdWXYZijklmnopqrstuv", api.OK)
	wantPut(t, page, 30, "XY", "0123456789abcdefghijklmnopqrstXY", api.OK)
	wantPut(t, page, 31, "X", "0123456789abcdefghijklmnopqrstuX", api.OK)
	wantPut(t, page, 0, noughts(32), noughts(32), api.OK)
	wantPut(t, page, 0, noughts(33), "", api.ErrRange)
	wantPut(t, page, 1, noughts(32), "", api.ErrRange)
	wantPut(t, page, 31, "XY", "", api.ErrRange)
	wantPut(t, page, 32, "X", "", api.ErrRange)
	wantPut(t, page, 33, "", "", api.ErrRange)
	wantPut(t, page, -1, "", "", api.ErrRange)
	wantPut(t, page, -1, "XY", "", api.ErrRange)
	wantPut(t, page, -16, noughts(32), "", api.ErrRange)
	if p, e := cell.Put([]byte(page), 32, nil); string(p) != page || e != api.OK {
		t.Errorf("Put of nil: %q, %d", p, e)
	}
}

// Each place and each length, some behind both ends of the page among them.
func TestAllPlacesAndLengths(t *testing.T) {
	page, other := row(32), strings.Repeat("\xff", 40)
	for off := -3; off < 37; off++ {
		for n := -3; n < 37; n++ {
			want, errno := piece(page, off, n)
			wantGet(t, page, off, n, want, errno)
			if n >= 0 {
				want, errno = changed(page, off, other[:n])
				wantPut(t, page, off, other[:n], want, errno)
			}
		}
	}
}

func TestFarPlacesAndLengths(t *testing.T) {
	page := row(32)
	for _, x := range far() {
		for near := range 33 {
			wantGet(t, page, x, near, "", api.ErrRange)
			wantGet(t, page, near, x, "", api.ErrRange)
			wantPut(t, page, x, page[:near], "", api.ErrRange)
		}
		for _, y := range far() {
			wantGet(t, page, x, y, "", api.ErrRange)
		}
		// Two that come to a place of the page, if they are added.
		wantGet(t, page, x, -x, "", api.ErrRange)
		wantGet(t, page, x, 32-x, "", api.ErrRange)
		for _, n := range lengths() {
			wantPut(t, page, x, row(n), "", api.ErrRange)
		}
	}
	for _, n := range lengths() {
		if n > 32 {
			wantPut(t, page, 0, row(n), "", api.ErrRange)
			wantPut(t, page, 32, row(n), "", api.ErrRange)
		}
	}
}

// R2: the page's form comes ahead of the place.
func TestPagesOfAnotherLength(t *testing.T) {
	places := append(far(), 0, 1, 15, 16, 31, 32)
	for _, size := range lengths() {
		if size == 32 {
			continue
		}
		for _, off := range places {
			for _, n := range []int{0, 1, 31, 32, 33, -1, math.MaxInt, math.MinInt} {
				wantGet(t, row(size), off, n, "", api.ErrForm)
			}
			for _, n := range []int{0, 1, 32, 33} {
				wantPut(t, row(size), off, row(n), "", api.ErrForm)
			}
		}
	}
	for _, off := range places {
		if b, e := cell.Get(nil, off, 0); len(b) != 0 || e != api.ErrForm {
			t.Errorf("Get of nil: %q, %d", b, e)
		}
		if p, e := cell.Put(nil, off, nil); len(p) != 0 || e != api.ErrForm {
			t.Errorf("Put of nil: %q, %d", p, e)
		}
	}
}

// P8.4

func TestWhatIsSealedIsOpened(t *testing.T) {
	for _, s := range append(someOf(16), string(cell.Zero())) {
		c, e := cell.Seal([]byte(s))
		if e != api.OK {
			t.Fatal(e)
		}
		wantOpen(t, string(c), s, api.OK)
	}
}

func TestWhatIsSplitIsJoined(t *testing.T) {
	for _, s := range someOf(32) {
		l, e := cell.Split([]byte(s))
		if e != api.OK {
			t.Fatal(e)
		}
		wantJoin(t, s, api.OK, texts(l)...)
	}
	for _, a := range someOf(16) {
		p, e := cell.Join([]byte(a), []byte(row(16)))
		if e != api.OK {
			t.Fatal(e)
		}
		wantSplit(t, string(p), api.OK, a, row(16))
	}
}

// All that is put is got again, and all else is as it was, piece by piece.
func TestWhatIsPutIsGotAgain(t *testing.T) {
	rnd := rand.New(rand.NewSource(8))
	for off := range 33 {
		for n := range 33 - off {
			page, s := drawn(rnd, 32), drawn(rnd, n)
			p, e := cell.Put([]byte(page), off, []byte(s))
			if e != api.OK || len(p) != 32 {
				t.Fatal(off, n, p, e)
			}
			wantGet(t, string(p), off, n, s, api.OK)
			wantGet(t, string(p), 0, off, page[:off], api.OK)
			wantGet(t, string(p), off+n, 32-off-n, page[off+n:], api.OK)
		}
	}
}

func TestWhatIsGotIsPutAgain(t *testing.T) {
	rnd := rand.New(rand.NewSource(9))
	for off := range 33 {
		for n := range 33 - off {
			page := drawn(rnd, 32)
			b, e := cell.Get([]byte(page), off, n)
			if e != api.OK {
				t.Fatal(off, n, e)
			}
			wantPut(t, page, off, string(b), page, api.OK)
		}
	}
}

func TestManyPutsBehindOneAnother(t *testing.T) {
	rnd := rand.New(rand.NewSource(10))
	page, want := []byte(noughts(32)), noughts(32)
	for range 2000 {
		off := rnd.Intn(36) - 2
		s := drawn(rnd, rnd.Intn(20))
		p, e := cell.Put(page, off, []byte(s))
		next, errno := changed(want, off, s)
		if e != errno || string(p) != next {
			t.Fatalf("Put(%q, %d, %q): %q, %d; want %q, %d", page, off, s, p, e, next, errno)
		}
		if e == api.OK {
			page, want = p, next
		}
	}
}

// R4

// call is one call, of some lists, that tells some lists.
type call struct {
	name string
	in   []string
	do   func(in [][]byte) ([][]byte, api.Errno)
}

// one is a list of one list, or none where there is none.
func one(b []byte, e api.Errno) ([][]byte, api.Errno) {
	if b == nil {
		return nil, e
	}
	return [][]byte{b}, e
}

// get is a call of Get.
func get(page string, off, n int) call {
	return call{"Get", []string{page}, func(in [][]byte) ([][]byte, api.Errno) { return one(cell.Get(in[0], off, n)) }}
}

// put is a call of Put.
func put(page string, off int, s string) call {
	return call{"Put", []string{page, s}, func(in [][]byte) ([][]byte, api.Errno) { return one(cell.Put(in[0], off, in[1])) }}
}

// join is a call of Join.
func join(sectors ...string) call {
	return call{"Join", sectors, func(in [][]byte) ([][]byte, api.Errno) { return one(cell.Join(in...)) }}
}

// seal, open and split are calls of theirs.
func seal(s string) call {
	return call{"Seal", []string{s}, func(in [][]byte) ([][]byte, api.Errno) { return one(cell.Seal(in[0])) }}
}

func open(s string) call {
	return call{"Open", []string{s}, func(in [][]byte) ([][]byte, api.Errno) { return one(cell.Open(in[0])) }}
}

func split(s string) call {
	return call{"Split", []string{s}, func(in [][]byte) ([][]byte, api.Errno) { return cell.Split(in[0]) }}
}

// zero is a call of Zero.
func zero() call {
	return call{"Zero", nil, func([][]byte) ([][]byte, api.Errno) { return one(cell.Zero(), api.OK) }}
}

// calls are some of all calls, that are OK and that are refused.
func calls() []call {
	page := row(32)
	l := []call{zero(), seal(row(16)), seal(row(15)), seal(row(20)), open(sealed(row(16))), open(noughts(20)), open(row(19)), open(row(24)),
		split(page), split(row(31)), split(row(40)),
		join(), join(page[:16], page[16:]), join(row(16), row(16)), join(row(16), row(15)), join(row(17), row(16)), join(row(16)), join(row(16), row(16), row(16))}
	for _, x := range [][2]int{{0, 0}, {0, 32}, {15, 2}, {32, 0}, {30, 2}, {0, 16}, {16, 16}, {31, 2}, {33, 0}, {-1, 2}} {
		l = append(l, get(page, x[0], x[1]), put(page, x[0], strings.Repeat("x", x[1])))
	}
	return append(l, get(page, 1, -1), get(page, 40, 2), get(row(31), 0, 3), put(row(31), 0, "abc"), put(row(40), 33, "abc"))
}

// given are texts in lists with spare room.
func given(l []string, room int) [][]byte {
	var in [][]byte
	for _, s := range l {
		in = append(in, roomy(s, room))
	}
	return in
}

// rooms are lists with all of their room.
func rooms(l [][]byte) []string {
	var s []string
	for _, b := range l {
		s = append(s, string(b[:cap(b)]))
	}
	return s
}

func TestSpareRoomIsNotLookedAt(t *testing.T) {
	for _, c := range calls() {
		want, errno := c.do(lists(c.in))
		for _, room := range []int{0, 1, 4, 16, 40} {
			got, e := c.do(given(c.in, room))
			if e != errno || !slices.Equal(texts(got), texts(want)) {
				t.Errorf("%s(%q) with room %d: %q, %d; want %q, %d", c.name, c.in, room, got, e, want, errno)
			}
		}
	}
}

func TestWhatIsHandedInIsNotChanged(t *testing.T) {
	for _, c := range calls() {
		for _, room := range []int{0, 1, 4, 16, 40} {
			in := given(c.in, room)
			list := append(slices.Clone(in), []byte("behind"))[:len(in)]
			was := rooms(in)
			c.do(list)
			if !slices.Equal(rooms(list), was) || string(list[:len(in)+1][len(in)]) != "behind" {
				t.Errorf("%s(%q) changed what was handed in", c.name, c.in)
			}
		}
	}
}

// What was told stays when what was handed in is turned, its spare room too;
// and the other way round; and one call's answers are not another one's, nor
// is one list of an answer the other one's.
func TestAnswersAreNewMemory(t *testing.T) {
	for _, c := range calls() {
		for _, room := range []int{0, 1, 4, 16, 40} {
			in := given(c.in, room)
			got, errno := c.do(in)
			want := texts(got)
			second, _ := c.do(in)
			for _, b := range in {
				fill(b, 'X')
			}
			if !slices.Equal(texts(got), want) || !slices.Equal(texts(second), want) {
				t.Errorf("%s(%q) answers memory that was handed in", c.name, c.in)
			}
			turned := rooms(in)
			for i := range got {
				fill(got[i], 'Y')
				if !slices.Equal(texts(got[i+1:]), want[i+1:]) {
					t.Errorf("%s(%q): two lists of one answer share memory", c.name, c.in)
				}
			}
			if !slices.Equal(rooms(in), turned) {
				t.Errorf("%s(%q) answers memory that was handed in, or its room", c.name, c.in)
			}
			clear(got)
			if !slices.Equal(texts(second), want) {
				t.Errorf("%s(%q) answers one memory twice", c.name, c.in)
			}
			if again, e := c.do(lists(c.in)); !slices.Equal(texts(again), want) || e != errno {
				t.Errorf("%s(%q) tells %q, then %q, %d", c.name, c.in, want, again, e)
			}
		}
	}
}

// Behind each list of Split's, too, there is no room that is the other one's.
func TestSectorsHaveNoRoomInCommon(t *testing.T) {
	for first, second := range map[int]int{0: 1, 1: 0} {
		l, e := cell.Split([]byte(row(32)))
		if e != api.OK {
			t.Fatal(e)
		}
		fill(append(l[first], "more than there was"...), 'Z')
		fill(l[first], 'Z')
		if want := row(32)[16*second:][:16]; string(l[second]) != want {
			t.Errorf("the sector %d became %q", second, l[second])
		}
	}
}

func TestPutOfAPieceOfThePageItself(t *testing.T) {
	for off := range 33 {
		for from := range 33 {
			n := 32 - max(off, from)
			page := []byte(row(32))
			p, e := cell.Put(page, off, page[from:from+n])
			if want, _ := changed(row(32), off, row(32)[from:from+n]); e != api.OK || string(p) != want || string(page) != row(32) {
				t.Errorf("Put of the %d bytes from %d on at %d: %q, %d; want %q", n, from, off, p, e, want)
			}
		}
	}
}

func TestJoinOfOneListTwice(t *testing.T) {
	b := []byte(row(16))
	p, e := cell.Join(b, b)
	if e != api.OK || string(p) != row(16)+row(16) {
		t.Fatalf("%q, %d", p, e)
	}
	p[0] = 'X'
	if string(b) != row(16) || string(p[16:]) != row(16) {
		t.Errorf("%q, %q", b, p)
	}
	l := [][]byte{b, []byte(noughts(16))}
	if p, _ = cell.Join(l...); string(p) != row(16)+noughts(16) {
		t.Errorf("%q", p)
	}
	l[0], l[1] = nil, nil
	if string(p) != row(16)+noughts(16) {
		t.Errorf("the list that was handed in is kept: %q", p)
	}
}

func TestNilAndEmptyAreOne(t *testing.T) {
	for name, do := range map[string]func(none []byte) ([]byte, api.Errno){
		"Seal": cell.Seal,
		"Open": cell.Open,
		"Split": func(none []byte) ([]byte, api.Errno) {
			l, e := cell.Split(none)
			return slices.Concat(l...), e
		},
		"Join":        func(none []byte) ([]byte, api.Errno) { return cell.Join(none, []byte(row(16))) },
		"Get":         func(none []byte) ([]byte, api.Errno) { return cell.Get(none, 0, 0) },
		"Put":         func(none []byte) ([]byte, api.Errno) { return cell.Put(none, 0, none) },
		"Put of none": func(none []byte) ([]byte, api.Errno) { return cell.Put([]byte(row(32)), 32, none) },
	} {
		of, errno := do(nil)
		for _, none := range [][]byte{{}, roomy("", 40)} {
			if b, e := do(none); string(b) != string(of) || e != errno {
				t.Errorf("%s: %q, %d of nil; %q, %d of an empty list", name, of, errno, b, e)
			}
		}
	}
}

// FuzzCell holds all calls against the library's check and plain texts.
func FuzzCell(f *testing.F) {
	f.Add([]byte(row(16)), []byte(sealed(row(16))), 0, 0)
	f.Add([]byte(row(32)), []byte("ab"), 15, 2)
	f.Add([]byte(row(32)), []byte(""), 32, 0)
	f.Add([]byte(row(31)), []byte(row(16)), -1, math.MaxInt)
	f.Fuzz(func(t *testing.T, b, other []byte, off, n int) {
		s, o := string(b), string(other)
		want, errno := piece(s, off, n)
		wantGet(t, s, off, n, want, errno)
		want, errno = changed(s, off, o)
		wantPut(t, s, off, o, want, errno)
		if len(s) == 16 {
			wantSeal(t, s, sealed(s), api.OK)
			wantOpen(t, sealed(s), s, api.OK)
		} else {
			wantSeal(t, s, "", api.ErrForm)
		}
		switch {
		case len(o) != 20:
			wantOpen(t, o, "", api.ErrForm)
		case sealed(o[:16]) == o:
			wantOpen(t, o, o[:16], api.OK)
		default:
			wantOpen(t, o, "", api.ErrIO)
		}
		if len(s) == 32 {
			wantSplit(t, s, api.OK, s[:16], s[16:])
		} else {
			wantSplit(t, s, api.ErrForm)
		}
		if len(s) == 16 && len(o) == 16 {
			wantJoin(t, s+o, api.OK, s, o)
		} else {
			wantJoin(t, "", api.ErrForm, s, o)
		}
	})
}
