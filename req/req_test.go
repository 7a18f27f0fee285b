package req_test

import (
	"bytes"
	"math"
	"math/rand"
	"slices"
	"testing"

	"allotment/api"
	"allotment/lay"
	"allotment/req"
)

// row is a row of the chapter's table: an operation, its name, and which of
// Page, Off, Len and Data it names (a letter each).
type row struct {
	op            int
	name, letters string
}

// table is the chapter's, written out.
func table() []row {
	return []row{{1, "fetch", "p"}, {2, "read", "pol"}, {3, "write", "pod"}, {4, "unpin", "p"},
		{5, "flush", "p"}, {6, "flushall", ""}, {7, "discard", "p"}, {8, "stats", ""}}
}

// names says whether a row names a field of that letter.
func (x row) names(letter byte) bool { return slices.Contains([]byte(x.letters), letter) }

// least is a request of that operation, all else zero.
func (x row) least() api.Request { return api.Request{Op: x.op} }

// rowOf is an operation's row.
func rowOf(op int) (row, bool) {
	for _, x := range table() {
		if x.op == op {
			return x, true
		}
	}
	return row{}, false
}

// isZero says whether a request's field of that letter is zero.
func isZero(r api.Request, letter byte) bool {
	return map[byte]bool{'p': r.Page == 0, 'o': r.Off == 0, 'l': r.Len == 0, 'd': len(r.Data) == 0}[letter]
}

// want is what P18.1 says of a request, told place by place: of what is read
// or written each byte is looked for in the page.
func want(r api.Request, pages int) api.Errno {
	x, is := rowOf(r.Op)
	if !is {
		return api.ErrForm
	}
	for _, letter := range []byte("pold") {
		if !x.names(letter) && !isZero(r, letter) {
			return api.ErrForm
		}
	}
	if x.names('p') && (pages < 1 || r.Page < 0 || r.Page > pages-1) {
		return api.ErrRange
	}
	bytes := 0
	if x.names('l') {
		bytes = r.Len
	}
	if x.names('d') {
		bytes = len(r.Data)
	}
	if r.Off < 0 || r.Off > 32 || bytes < 0 || bytes > 32 || r.Off+bytes > 32 {
		return api.ErrRange
	}
	return api.OK
}

// far are numbers that are no operation's, no page's and no place's: such too
// as come to be one if some of their bits are not looked at.
func far() []int {
	return []int{33, 64, 65, 100, 255, 256, 257, 258, 1 << 16, 1<<31 - 1, 1 << 31, 1 << 32, 1<<32 + 1, 1<<32 + 3, 1<<62 + 1, math.MaxInt - 32, math.MaxInt - 1, math.MaxInt,
		-1, -2, -3, -8, -9, -31, -32, -33, -255, -256, -253, -1 << 31, -1 << 32, -1<<32 + 3, -1 << 62, math.MinInt, math.MinInt + 1, math.MinInt + 3, math.MinInt + 32}
}

// numbers are such that may be and such that may not.
func numbers() []int { return append([]int{0, 1, 2, 3, 8, 9, 30, 31, 32}, far()...) }

// some is n bytes, no two of them that are side by side the same.
func some(n int) []byte {
	b := make([]byte, n)
	for i := range b {
		b[i] = byte(7*i + 1)
	}
	return b
}

// roomy is bytes with room behind them in which there is something.
func roomy(b []byte) []byte {
	l := make([]byte, len(b), len(b)+64)
	copy(l, b)
	for i := len(l); i < cap(l); i++ {
		l[:cap(l)][i] = 0xee
	}
	return l
}

// check fails if Check tells something else than it should.
func check(t *testing.T, r api.Request, pages int, e api.Errno) {
	t.Helper()
	if got := req.Check(r, pages); got != e {
		t.Errorf("Check(%v, %d): %d, not %d", r, pages, got, e)
	}
}

// equal says whether two requests are one, nil and empty Data the same.
func equal(a, b api.Request) bool {
	return a.Op == b.Op && a.Page == b.Page && a.Off == b.Off && a.Len == b.Len && string(a.Data) == string(b.Data)
}

// byteOf is a byte of a number's bytes, by a division instead of a shift.
func byteOf(n, i int) byte {
	u := uint64(n)
	for range i {
		u /= 256
	}
	return byte(u % 256)
}

// laid is what P18.2 says of Write, byte by byte.
func laid(c api.Cap, r api.Request) []byte {
	var b []byte
	for _, n := range []int{c.Slot, c.Gen, r.Op, r.Page, r.Off, r.Len, len(r.Data)} {
		for i := range 8 {
			b = append(b, byteOf(n, i))
		}
	}
	return append(b, r.Data...)
}

// refused fails if bytes are read as a request.
func refused(t *testing.T, what string, b []byte) {
	t.Helper()
	c, r, e := req.Read(b)
	if e != api.ErrForm || c != (api.Cap{}) || !equal(r, api.Request{}) {
		t.Errorf("Read of %s (%d bytes): %v, %v, %d", what, len(b), c, r, e)
	}
}

// round fails if a request is not read as it was written.
func round(t *testing.T, c api.Cap, r api.Request) {
	t.Helper()
	b := req.Write(c, r)
	if !bytes.Equal(b, laid(c, r)) {
		t.Fatalf("Write(%v, %v): %v", c, r, b)
	}
	x, y, e := req.Read(b)
	if e != api.OK || x != c || !equal(y, r) {
		t.Fatalf("Read of what Write(%v, %v) told: %v, %v, %d", c, r, x, y, e)
	}
}

// chance is a number that may be anything, and is often near an edge.
func chance(rnd *rand.Rand) int {
	l := numbers()
	switch rnd.Intn(4) {
	case 0:
		return l[rnd.Intn(len(l))]
	case 1:
		return int(rnd.Uint64())
	}
	return rnd.Intn(40) - 2
}

// chanceRequest is a request that may be anything, and is often one that may be.
func chanceRequest(rnd *rand.Rand) api.Request {
	r := api.Request{Op: rnd.Intn(11) - 1}
	for _, p := range []*int{&r.Page, &r.Off, &r.Len} {
		if rnd.Intn(2) == 0 {
			*p = chance(rnd)
		}
	}
	if rnd.Intn(2) == 0 {
		r.Data = some(rnd.Intn(33))
	}
	if rnd.Intn(8) == 0 {
		r.Op = chance(rnd)
	}
	return r
}

// P18.1

func TestCheckExample(t *testing.T) {
	check(t, api.Request{Op: api.Write, Page: 3, Off: 30, Data: []byte("ab")}, 4, api.OK)
	check(t, api.Request{Op: api.Write, Page: 3, Off: 30, Data: []byte("abc")}, 4, api.ErrRange)
}

func TestCheckOperation(t *testing.T) {
	for _, x := range table() {
		check(t, x.least(), 1, api.OK)
	}
	for _, op := range append([]int{0, 9, 10, 16, 17, 31, 32}, far()...) {
		check(t, api.Request{Op: op}, 1, api.ErrForm)
		check(t, api.Request{Op: op, Page: -1, Off: 40, Len: 40}, 1, api.ErrForm)
	}
}

// notNamed are requests that each have one field more than their operation
// names.
func notNamed(x row) []api.Request {
	var l []api.Request
	for _, n := range append([]int{1, 2, 31, 32}, far()...) {
		if !x.names('p') {
			l = append(l, api.Request{Op: x.op, Page: n})
		}
		if !x.names('o') {
			l = append(l, api.Request{Op: x.op, Off: n})
		}
		if !x.names('l') {
			l = append(l, api.Request{Op: x.op, Len: n})
		}
	}
	for _, b := range [][]byte{{0}, {1}, some(2), some(32), some(33), some(300)} {
		if !x.names('d') {
			l = append(l, api.Request{Op: x.op, Data: b})
		}
	}
	return l
}

func TestCheckFieldNotNamed(t *testing.T) {
	for _, x := range table() {
		for _, r := range notNamed(x) {
			check(t, r, 4, api.ErrForm)
		}
	}
}

// TestCheckFormAheadOfRange puts a field that is not named beside one that is
// out of its range.
func TestCheckFormAheadOfRange(t *testing.T) {
	for _, x := range table() {
		for _, r := range notNamed(x) {
			for _, n := range []int{-1, 4, 33, math.MaxInt, math.MinInt} {
				beside := r
				if x.names('p') {
					beside.Page = n
				}
				check(t, beside, 4, api.ErrForm)
				if x.names('o') {
					beside.Off = n
				}
				if x.names('l') {
					beside.Len = n
				}
				check(t, beside, 4, api.ErrForm)
				check(t, beside, 0, api.ErrForm)
			}
		}
	}
}

func TestCheckTwoFieldsNotNamed(t *testing.T) {
	check(t, api.Request{Op: api.Fetch, Off: 1, Len: -1}, 4, api.ErrForm)
	check(t, api.Request{Op: api.Stats, Page: 1, Off: -1}, 4, api.ErrForm)
	check(t, api.Request{Op: api.FlushAll, Len: 1, Data: some(1)}, 4, api.ErrForm)
	check(t, api.Request{Op: api.Unpin, Len: -1, Data: some(1)}, 4, api.ErrForm)
	check(t, api.Request{Op: api.Read, Len: -1, Data: some(1)}, 4, api.ErrForm)
	check(t, api.Request{Op: api.Write, Len: -1, Data: some(1)}, 4, api.ErrForm)
	check(t, api.Request{Op: api.Write, Len: math.MaxInt, Data: some(1)}, 4, api.ErrForm)
}

func TestCheckPage(t *testing.T) {
	for _, x := range table() {
		for _, pages := range []int{1, 2, 3, 4, 63, 64, 65, 1000, math.MaxInt} {
			for _, p := range []int{-1, 0, 1, pages - 1, pages, pages + 1, math.MinInt, math.MaxInt} {
				r := api.Request{Op: x.op, Page: p}
				check(t, r, pages, want(r, pages))
			}
		}
	}
	for _, pages := range []int{1, 4, 64} {
		check(t, api.Request{Op: api.Flush, Page: -1}, pages, api.ErrRange)
		check(t, api.Request{Op: api.Flush, Page: pages - 1}, pages, api.OK)
		check(t, api.Request{Op: api.Flush, Page: pages}, pages, api.ErrRange)
	}
}

// TestCheckNoPages asks where no page is there: only what names none may be.
func TestCheckNoPages(t *testing.T) {
	for _, x := range table() {
		for _, pages := range []int{0, -1, -2, -64, -1 << 32, math.MinInt + 1, math.MinInt} {
			e := api.OK
			if x.names('p') {
				e = api.ErrRange
			}
			check(t, x.least(), pages, e)
			for _, p := range []int{-1, 1, pages - 1, pages, math.MinInt, math.MaxInt} {
				r := api.Request{Op: x.op, Page: p}
				check(t, r, pages, want(r, pages))
			}
		}
	}
}

func TestCheckOff(t *testing.T) {
	for _, op := range []int{api.Read, api.Write} {
		check(t, api.Request{Op: op, Off: -1}, 4, api.ErrRange)
		check(t, api.Request{Op: op, Off: 0}, 4, api.OK)
		check(t, api.Request{Op: op, Off: 32}, 4, api.OK)
		check(t, api.Request{Op: op, Off: 33}, 4, api.ErrRange)
		for _, off := range far() {
			check(t, api.Request{Op: op, Off: off}, 4, api.ErrRange)
		}
	}
}

func TestCheckLen(t *testing.T) {
	check(t, api.Request{Op: api.Read, Len: -1}, 4, api.ErrRange)
	check(t, api.Request{Op: api.Read, Len: 0}, 4, api.OK)
	check(t, api.Request{Op: api.Read, Len: 32}, 4, api.OK)
	check(t, api.Request{Op: api.Read, Len: 33}, 4, api.ErrRange)
	check(t, api.Request{Op: api.Read, Off: 1, Len: -1}, 4, api.ErrRange)
	check(t, api.Request{Op: api.Read, Off: -1, Len: 1}, 4, api.ErrRange)
	check(t, api.Request{Op: api.Read, Off: 33, Len: -1}, 4, api.ErrRange)
	check(t, api.Request{Op: api.Read, Off: -1, Len: 33}, 4, api.ErrRange)
	for off := range 33 {
		check(t, api.Request{Op: api.Read, Off: off, Len: 32 - off}, 4, api.OK)
		check(t, api.Request{Op: api.Read, Off: off, Len: 33 - off}, 4, api.ErrRange)
	}
}

// TestCheckNoInt has an Off and a Len that together are no int.
func TestCheckNoInt(t *testing.T) {
	for _, off := range numbers() {
		for _, n := range numbers() {
			r := api.Request{Op: api.Read, Off: off, Len: n}
			check(t, r, 4, want(r, 4))
		}
	}
	check(t, api.Request{Op: api.Read, Off: math.MaxInt, Len: math.MaxInt}, 4, api.ErrRange)
	check(t, api.Request{Op: api.Read, Off: math.MinInt, Len: math.MinInt}, 4, api.ErrRange)
	check(t, api.Request{Op: api.Write, Off: math.MaxInt, Data: some(32)}, 4, api.ErrRange)
	check(t, api.Request{Op: api.Write, Off: math.MinInt, Data: some(32)}, 4, api.ErrRange)
}

func TestCheckData(t *testing.T) {
	for off := range 33 {
		check(t, api.Request{Op: api.Write, Off: off, Data: some(32 - off)}, 4, api.OK)
		check(t, api.Request{Op: api.Write, Off: off, Data: some(33 - off)}, 4, api.ErrRange)
	}
	check(t, api.Request{Op: api.Write, Off: -1, Data: some(1)}, 4, api.ErrRange)
	check(t, api.Request{Op: api.Write, Off: -1, Data: some(33)}, 4, api.ErrRange)
	check(t, api.Request{Op: api.Write, Data: some(1000)}, 4, api.ErrRange)
	check(t, api.Request{Op: api.Write, Page: 4, Data: some(1)}, 4, api.ErrRange)
	check(t, api.Request{Op: api.Write, Data: make([]byte, 32)}, 4, api.OK)
}

// TestCheckEmptyData has Data that is there and has no bytes, with room behind
// it and without: R4 has it as none.
func TestCheckEmptyData(t *testing.T) {
	for _, x := range table() {
		for _, b := range [][]byte{nil, {}, make([]byte, 0, 40), some(40)[:0]} {
			check(t, api.Request{Op: x.op, Data: b}, 4, api.OK)
		}
	}
	check(t, api.Request{Op: api.Write, Off: 32, Data: []byte{}}, 4, api.OK)
	check(t, api.Request{Op: api.Write, Off: 33, Data: []byte{}}, 4, api.ErrRange)
}

func TestCheckAsModel(t *testing.T) {
	rnd := rand.New(rand.NewSource(18))
	for range 200000 {
		r, pages := chanceRequest(rnd), chance(rnd)
		check(t, r, pages, want(r, pages))
	}
}

func TestName(t *testing.T) {
	for _, x := range table() {
		if s := req.Name(x.op); s != x.name {
			t.Errorf("Name(%d): %q, not %q", x.op, s, x.name)
		}
	}
	for _, op := range append([]int{0, 9, 10, 16, 17}, far()...) {
		if s := req.Name(op); s != "" {
			t.Errorf("Name(%d): %q", op, s)
		}
	}
}

// P18.2

func TestWrite(t *testing.T) {
	c := api.Cap{Slot: 1, Gen: -2}
	b := req.Write(c, api.Request{Op: 3, Page: 4, Off: 5, Len: 6, Data: []byte("ab")})
	want := []byte{1, 0, 0, 0, 0, 0, 0, 0, 254, 255, 255, 255, 255, 255, 255, 255,
		3, 0, 0, 0, 0, 0, 0, 0, 4, 0, 0, 0, 0, 0, 0, 0, 5, 0, 0, 0, 0, 0, 0, 0,
		6, 0, 0, 0, 0, 0, 0, 0, 2, 0, 0, 0, 0, 0, 0, 0, 'a', 'b'}
	if !bytes.Equal(b, want) {
		t.Error(b)
	}
	if b := req.Write(api.Cap{}, api.Request{}); !bytes.Equal(b, make([]byte, 56)) {
		t.Error(b)
	}
}

// TestWriteEachField has one number after the other far away, so that none
// stands for another one.
func TestWriteEachField(t *testing.T) {
	for _, n := range numbers() {
		for _, c := range []api.Cap{{Slot: n}, {Gen: n}, {Slot: n, Gen: n}} {
			round(t, c, api.Request{})
		}
		for _, r := range []api.Request{{Op: n}, {Page: n}, {Off: n}, {Len: n}, {Op: n, Page: n, Off: n, Len: n, Data: some(32)}} {
			round(t, api.Cap{}, r)
			round(t, api.Cap{Slot: 3, Gen: 1048577}, r)
		}
	}
	for n := range 33 {
		round(t, api.Cap{}, api.Request{Data: some(n)})
		round(t, api.Cap{}, api.Request{Data: make([]byte, n)})
	}
}

func TestReadCutOff(t *testing.T) {
	for _, n := range []int{0, 1, 2, 31, 32} {
		b := req.Write(api.Cap{Slot: 1, Gen: 2}, api.Request{Op: 3, Page: 4, Off: 5, Len: 6, Data: some(n)})
		for i := range b {
			refused(t, "bytes cut off", b[:i])
			// Behind the place there is still what was cut off, in its room.
			refused(t, "bytes cut off", b[:i:i])
		}
	}
	refused(t, "nothing", nil)
	refused(t, "no bytes", []byte{})
}

func TestReadOneTooMany(t *testing.T) {
	for _, n := range []int{0, 1, 31, 32} {
		b := req.Write(api.Cap{Slot: 1, Gen: 2}, api.Request{Op: 3, Data: some(n)})
		for _, more := range [][]byte{{0}, {1}, some(8), some(100)} {
			refused(t, "bytes too many", slices.Concat(b, more))
		}
		refused(t, "bytes too many ahead", slices.Concat([]byte{0}, b))
		refused(t, "two requests", slices.Concat(b, b))
	}
}

// six is the bytes of all numbers ahead of Data.
func six() []byte { return lay.Ints(nil, 1, 2, 3, 4, 5, 6) }

func TestReadLongData(t *testing.T) {
	for _, n := range []int{33, 34, 64, 256, 257, 1000} {
		refused(t, "long Data", lay.Bytes(six(), some(n)))
	}
	c, r, e := req.Read(lay.Bytes(six(), some(32)))
	if e != api.OK || c != (api.Cap{Slot: 1, Gen: 2}) || !equal(r, api.Request{Op: 3, Page: 4, Off: 5, Len: 6, Data: some(32)}) {
		t.Error(c, r, e)
	}
}

// TestReadLength has a text whose length is said to be another one than it is.
func TestReadLength(t *testing.T) {
	for _, is := range []int{0, 1, 5, 32} {
		for _, said := range append([]int{is + 1, is + 2, 32, 33}, numbers()...) {
			if said == is {
				continue
			}
			refused(t, "another length", append(lay.Ints(six(), said), some(is)...))
		}
	}
	refused(t, "a length of no bytes", lay.Ints(six(), 32))
	refused(t, "2^64 - 1 bytes", lay.Uint(six(), math.MaxUint64))
	refused(t, "2^63 bytes", lay.Uint(six(), 1<<63))
}

// TestReadAnyBytes has Read tell a request just of what Write makes of it.
func TestReadAnyBytes(t *testing.T) {
	rnd := rand.New(rand.NewSource(182))
	for range 50000 {
		b := make([]byte, rnd.Intn(100))
		rnd.Read(b)
		if len(b) >= 56 && rnd.Intn(4) > 0 {
			copy(b[48:], lay.Ints(nil, len(b)-56+rnd.Intn(3)-1))
		}
		c, r, e := req.Read(b)
		good := len(b) >= 56 && len(b) <= 88 && bytes.Equal(b[48:56], lay.Ints(nil, len(b)-56))
		if good != (e == api.OK) || good && !bytes.Equal(laid(c, r), b) {
			t.Fatalf("Read(%v): %v, %v, %d", b, c, r, e)
		}
		if !good {
			refused(t, "any bytes", b)
		}
	}
}

func TestClone(t *testing.T) {
	for _, n := range []int{0, 1, 2, 32, 33, 1000} {
		r := api.Request{Op: 3, Page: -4, Off: math.MaxInt, Len: math.MinInt, Data: some(n)}
		d := req.Clone(r)
		if !equal(d, r) {
			t.Error(n, d)
		}
		for i := range d.Data {
			d.Data[i]++
		}
		if !bytes.Equal(r.Data, some(n)) {
			t.Error(n, "what is cloned was changed")
		}
	}
	for _, b := range [][]byte{nil, {}} {
		if d := req.Clone(api.Request{Op: 8, Data: b}); !equal(d, api.Request{Op: 8}) {
			t.Error(d)
		}
	}
}

func TestSameOneField(t *testing.T) {
	r := api.Request{Op: 3, Page: 4, Off: 5, Len: 6, Data: []byte("ab")}
	if !req.Same(r, api.Request{Op: 3, Page: 4, Off: 5, Len: 6, Data: []byte("ab")}) || !req.Same(api.Request{}, api.Request{}) {
		t.Error("the same")
	}
	for _, n := range append([]int{0, 1, 2}, far()...) {
		for i, p := range []api.Request{{Op: n, Page: 4, Off: 5, Len: 6}, {Op: 3, Page: n, Off: 5, Len: 6}, {Op: 3, Page: 4, Off: n, Len: 6}, {Op: 3, Page: 4, Off: 5, Len: n}} {
			p.Data = []byte("ab")
			if req.Same(p, r) || req.Same(r, p) {
				t.Error(i, p)
			}
		}
	}
}

func TestSameData(t *testing.T) {
	r := api.Request{Op: 3, Data: []byte("ab")}
	for _, b := range [][]byte{nil, {}, []byte("a"), []byte("b"), []byte("ac"), []byte("bb"), []byte("ba"), []byte("abc"), []byte("ab\x00"), {0, 0}} {
		p := api.Request{Op: 3, Data: b}
		if req.Same(p, r) || req.Same(r, p) {
			t.Errorf("%q", b)
		}
	}
	for _, b := range [][]byte{nil, {}, some(9)[:0]} {
		none, zero := api.Request{Op: 3, Data: b}, api.Request{Op: 3, Data: []byte{0}}
		if !req.Same(none, api.Request{Op: 3}) || !req.Same(api.Request{Op: 3}, none) || req.Same(none, zero) || req.Same(zero, none) {
			t.Error("nil and empty", b)
		}
	}
	// What stands in the room behind Data is no part of it.
	if !req.Same(api.Request{Data: roomy(some(5))}, api.Request{Data: some(5)}) {
		t.Error("room")
	}
}

func TestSameAsModel(t *testing.T) {
	rnd := rand.New(rand.NewSource(183))
	for range 50000 {
		a, b := chanceRequest(rnd), chanceRequest(rnd)
		if rnd.Intn(2) == 0 {
			b = a
			b.Data = slices.Clone(a.Data)
			if len(b.Data) > 0 && rnd.Intn(2) == 0 {
				b.Data[rnd.Intn(len(b.Data))]++
			}
		}
		if req.Same(a, b) != equal(a, b) || req.Same(b, a) != equal(a, b) {
			t.Fatal(a, b)
		}
	}
}

// P18.3

func TestReadAsWritten(t *testing.T) {
	rnd := rand.New(rand.NewSource(184))
	may, all := 0, 20000
	for range all {
		r := chanceRequest(rnd)
		if req.Check(r, 40) == api.OK {
			may++
		}
		round(t, api.Cap{Slot: chance(rnd), Gen: chance(rnd)}, r)
	}
	if may == 0 || may == all {
		t.Error("of those that may be, and those that may not, there are not both:", may)
	}
}

// The rules

// TestZeroBesideError is R2: even where all but the last byte could be read
// nothing of it is told.
func TestZeroBesideError(t *testing.T) {
	b := req.Write(api.Cap{Slot: 7, Gen: 8}, api.Request{Op: 3, Page: 4, Off: 5, Len: 6, Data: some(32)})
	refused(t, "one byte too few", b[:len(b)-1])
	refused(t, "one byte too many", append(slices.Clone(b), 0))
	refused(t, "Data of 33 bytes", lay.Bytes(six(), some(33)))
}

// TestNothingChanged is R4: neither what is handed in, nor its spare room.
func TestNothingChanged(t *testing.T) {
	r := api.Request{Op: 3, Page: 4, Off: 5, Len: 6, Data: roomy(some(9))}
	laid := roomy(req.Write(api.Cap{}, r))
	whole, wholeLaid := slices.Clone(r.Data[:cap(r.Data)]), slices.Clone(laid[:cap(laid)])
	req.Check(r, 4)
	req.Same(r, r)
	d := req.Clone(r)
	b := req.Write(api.Cap{}, r)
	_, got, _ := req.Read(laid)
	for i := range d.Data {
		d.Data[i] = 99
	}
	for i := range b {
		b[i] = 99
	}
	for i := range got.Data {
		got.Data[i] = 99
	}
	_, _ = append(d.Data, 98), append(got.Data, 98)
	if !bytes.Equal(whole, r.Data[:cap(r.Data)]) || !bytes.Equal(wholeLaid, laid[:cap(laid)]) {
		t.Error(r.Data[:cap(r.Data)], laid[:cap(laid)])
	}
}

// TestNothingKept is R4 again: what is told stays as it is when what was
// handed in is changed later.
func TestNothingKept(t *testing.T) {
	c, r := api.Cap{Slot: 1, Gen: 2}, api.Request{Op: 3, Data: some(9)}
	b, d := req.Write(c, r), req.Clone(r)
	_, got, _ := req.Read(b)
	for i := range r.Data {
		r.Data[i] = 77
	}
	was := api.Request{Op: 3, Data: some(9)}
	if !equal(d, was) || !bytes.Equal(b, laid(c, was)) {
		t.Error(d, b)
	}
	for i := range b {
		b[i] = 77
	}
	if !equal(got, was) {
		t.Error(got)
	}
}

// TestNewMemory is R4: what is told twice is told in memory of its own.
func TestNewMemory(t *testing.T) {
	c, r := api.Cap{Slot: 1, Gen: 2}, api.Request{Op: 3, Data: some(9)}
	one, two := req.Write(c, r), req.Write(c, r)
	_, first, _ := req.Read(one)
	_, second, _ := req.Read(one)
	for i := range first.Data {
		first.Data[i] = 55
	}
	if !equal(second, r) || !bytes.Equal(one, laid(c, r)) {
		t.Error(second, one)
	}
	for i := range one {
		one[i] = 55
	}
	if !bytes.Equal(two, laid(c, r)) {
		t.Error(two)
	}
}

// TestSameCalls is R5: what a call tells hangs on its arguments alone, not on
// the room behind Data, nor on what was asked ahead.
func TestSameCalls(t *testing.T) {
	rnd := rand.New(rand.NewSource(185))
	for range 3000 {
		r, pages, c := chanceRequest(rnd), chance(rnd), api.Cap{Slot: chance(rnd), Gen: chance(rnd)}
		other := r
		other.Data = roomy(r.Data)
		if req.Check(r, pages) != req.Check(other, pages) || req.Name(r.Op) != req.Name(other.Op) || !req.Same(r, other) || !equal(req.Clone(r), req.Clone(other)) {
			t.Fatal(r)
		}
		b := req.Write(c, r)
		if !bytes.Equal(b, req.Write(c, other)) {
			t.Fatal(r)
		}
		req.Read(b[:rnd.Intn(len(b))])
		if x, y, e := req.Read(roomy(b)); x != c || !equal(y, r) || e != api.OK {
			t.Fatal(x, y, e)
		}
	}
}

func FuzzRequest(f *testing.F) {
	f.Add([]byte{}, 4)
	f.Add(req.Write(api.Cap{Slot: 1, Gen: 1048577}, api.Request{Op: 3, Page: 3, Off: 30, Data: []byte("ab")}), 4)
	f.Add(req.Write(api.Cap{}, api.Request{Op: 2, Off: math.MaxInt, Len: math.MaxInt}), 1)
	f.Add(lay.Bytes(six(), some(33)), 64)
	f.Fuzz(func(t *testing.T, b []byte, pages int) {
		c, r, e := req.Read(b)
		if e != api.OK {
			refused(t, "fuzz", b)
			return
		}
		if !bytes.Equal(req.Write(c, r), b) || !bytes.Equal(laid(c, r), b) {
			t.Fatal(b)
		}
		check(t, r, pages, want(r, pages))
		if d := req.Clone(r); !req.Same(d, r) || !equal(d, r) {
			t.Fatal(d)
		}
		if s := req.Name(r.Op); (s == "") != (req.Check(api.Request{Op: r.Op}, 1) != api.OK) {
			t.Fatal(s)
		}
	})
}
