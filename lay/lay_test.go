package lay_test

import (
	"bytes"
	"encoding/binary"
	"math"
	"math/rand"
	"strings"
	"testing"

	"allotment/api"
	"allotment/lay"
)

// someInts are the edges of an int, and of its bytes.
var someInts = []int{0, 1, -1, 2, -2, 127, 128, 255, 256, 258, -256, 1<<31 - 1, 1 << 31, -1 << 31, 1<<32 - 1, 1 << 32, 0x0102030405060708, math.MaxInt, math.MinInt, math.MaxInt - 1, math.MinInt + 1}

// someUints are the edges of a number without a sign.
var someUints = []uint64{0, 1, 255, 256, 1<<32 - 1, 1 << 32, 1<<63 - 1, 1 << 63, 1<<63 + 1, 1<<64 - 2, 1<<64 - 1, 0x0102030405060708}

// someBytes are texts of several lengths, without any bytes and with all.
func someBytes() [][]byte {
	all := make([]byte, 256)
	for i := range all {
		all[i] = byte(i)
	}
	return [][]byte{nil, {}, {0}, {255}, []byte("ab"), []byte("1234567"), []byte("12345678"), []byte("123456789"), all, bytes.Repeat([]byte{9}, 5000)}
}

// eight is a number's bytes, told by the library.
func eight(n uint64) string {
	var b [8]byte
	binary.LittleEndian.PutUint64(b[:], n)
	return string(b[:])
}

// roomy is a text in a list with spare room, which holds the byte x.
func roomy(s string, room int, x byte) []byte {
	whole := append([]byte(s), bytes.Repeat([]byte{x}, room)...)
	return whole[:len(s):len(whole)]
}

// wantReader holds a reader against what it should tell of itself.
func wantReader(t *testing.T, r *lay.Reader, left int, errno, end api.Errno) {
	t.Helper()
	if r.Left() != left || r.Errno() != errno || r.End() != end {
		t.Errorf("left %d, errno %d, end %d; want %d, %d, %d", r.Left(), r.Errno(), r.End(), left, errno, end)
	}
}

// P1.1

func TestUintPutsBytes(t *testing.T) {
	for _, b := range someBytes() {
		for _, n := range someUints {
			if got := lay.Uint(b, n); string(got) != string(b)+eight(n) {
				t.Errorf("Uint(%d bytes, %d): %v", len(b), n, got)
			}
		}
	}
	if got := string(lay.Uint(nil, 0x0102030405060708)); got != "\x08\x07\x06\x05\x04\x03\x02\x01" {
		t.Errorf("the lowest byte is not first: %q", got)
	}
}

func TestIntsPutsEachInItsRow(t *testing.T) {
	for _, b := range someBytes() {
		want := string(b)
		for _, n := range someInts {
			if got := lay.Ints(b, n); string(got) != string(b)+eight(uint64(n)) {
				t.Errorf("Ints(%d bytes, %d): %v", len(b), n, got)
			}
			want += eight(uint64(n))
		}
		if got := lay.Ints(b, someInts...); string(got) != want {
			t.Errorf("Ints(%d bytes, all): %v", len(b), got)
		}
		if got := lay.Ints(b); string(got) != string(b) {
			t.Errorf("Ints(%d bytes): %v", len(b), got)
		}
	}
	if got := string(lay.Ints(nil, -2)); got != "\xfe"+strings.Repeat("\xff", 7) {
		t.Errorf("Ints of -2: %q", got)
	}
	if got := string(lay.Ints(nil, math.MinInt)); got != "\x00\x00\x00\x00\x00\x00\x00\x80" {
		t.Errorf("Ints of the least one: %q", got)
	}
}

func TestBytesPutsLengthAndBytes(t *testing.T) {
	for _, b := range someBytes() {
		for _, s := range someBytes() {
			if got := lay.Bytes(b, s); string(got) != string(b)+eight(uint64(len(s)))+string(s) {
				t.Errorf("Bytes(%d bytes, %d bytes): %v", len(b), len(s), got)
			}
		}
	}
}

// P1.2

func TestReadNumbers(t *testing.T) {
	for _, n := range someUints {
		r := lay.Read([]byte(eight(n) + eight(n)))
		wantReader(t, r, 16, api.OK, api.ErrForm)
		if got := r.Uint(); got != n {
			t.Errorf("Uint: %d, want %d", got, n)
		}
		wantReader(t, r, 8, api.OK, api.ErrForm)
		if got := r.Int(); got != int(n) {
			t.Errorf("Int: %d, want %d", got, int(n))
		}
		wantReader(t, r, 0, api.OK, api.OK)
	}
}

func TestReadNumberOfTooFewBytes(t *testing.T) {
	for n := range 8 {
		b := bytes.Repeat([]byte{7}, n)
		r := lay.Read(b)
		if got := r.Uint(); got != 0 {
			t.Errorf("Uint of %d bytes: %d", n, got)
		}
		wantReader(t, r, 0, api.ErrForm, api.ErrForm)
		r = lay.Read(b)
		if got := r.Int(); got != 0 {
			t.Errorf("Int of %d bytes: %d", n, got)
		}
		wantReader(t, r, 0, api.ErrForm, api.ErrForm)
	}
}

func TestReadBytes(t *testing.T) {
	for i, x := range []struct {
		b    string
		most int
		want string
		left int
	}{
		{eight(0), 0, "", 0},
		{eight(0), 5, "", 0},
		{eight(0) + "abc", 0, "", 3},
		{eight(2) + "ab", 2, "ab", 0},
		{eight(2) + "ab", 3, "ab", 0},
		{eight(2) + "abc", 2, "ab", 1},
		{eight(2) + "ab", math.MaxInt, "ab", 0},
		{eight(300) + strings.Repeat("x", 301), 300, strings.Repeat("x", 300), 1},
	} {
		r := lay.Read([]byte(x.b))
		if got := string(r.Bytes(x.most)); got != x.want || r.Errno() != api.OK || r.Left() != x.left {
			t.Errorf("%d: %q, errno %d, left %d", i, got, r.Errno(), r.Left())
		}
	}
}

func TestReadBytesRefused(t *testing.T) {
	for i, x := range []struct {
		b    string
		most int
	}{
		{"", 5},                               // no length at all
		{"\x00\x00\x00\x00\x00\x00\x00", 5},   // too few bytes of a length
		{eight(2) + "ab", 1},                  // above most
		{eight(1) + "ab", 0},                  // above most
		{eight(0), -1},                        // most below 0
		{eight(0) + "ab", math.MinInt},        // most below 0
		{eight(1) + "ab", -1},                 // most below 0
		{eight(1<<64-1) + "ab", -1},           // most below 0, and the same bits
		{eight(3) + "ab", 3},                  // fewer are left
		{eight(1), math.MaxInt},               // fewer are left
		{eight(1<<63-1) + "ab", math.MaxInt},  // fewer are left
		{eight(1<<63) + "ab", math.MaxInt},    // above each int
		{eight(1<<64-1) + "ab", math.MaxInt},  // above each int
		{eight(1<<32+1) + "ab", math.MaxInt},  // its low half would do
		{eight(1<<63+1) + "ab", math.MaxInt},  // its low half would do
		{eight(1<<64 - 1), 0},                 // above most, and none are left
		{eight(1<<63) + eight(0) + "abcd", 8}, // above most, though more numbers stand behind
	} {
		r := lay.Read([]byte(x.b))
		if got := r.Bytes(x.most); len(got) != 0 {
			t.Errorf("%d: %q", i, got)
		}
		wantReader(t, r, 0, api.ErrForm, api.ErrForm)
	}
}

// P1.3

func TestBehindAnErrorNothingIsRead(t *testing.T) {
	good := eight(5) + eight(2) + "ab" + eight(7)
	for i, fail := range []struct {
		ahead string
		do    func(r *lay.Reader)
	}{
		{eight(2), func(r *lay.Reader) { r.Bytes(1) }},
		{eight(0), func(r *lay.Reader) { r.Bytes(-1) }},
		{eight(1000), func(r *lay.Reader) { r.Bytes(2000) }},
		{eight(1 << 63), func(r *lay.Reader) { r.Bytes(math.MaxInt) }},
	} {
		r := lay.Read([]byte(fail.ahead + good))
		fail.do(r)
		for range 2 {
			wantReader(t, r, 0, api.ErrForm, api.ErrForm)
			if n := r.Uint(); n != 0 {
				t.Errorf("%d: Uint %d", i, n)
			}
			if n := r.Int(); n != 0 {
				t.Errorf("%d: Int %d", i, n)
			}
			if s := r.Bytes(100); len(s) != 0 {
				t.Errorf("%d: Bytes %q", i, s)
			}
			if s := r.Bytes(-1); len(s) != 0 {
				t.Errorf("%d: Bytes %q", i, s)
			}
		}
		wantReader(t, r, 0, api.ErrForm, api.ErrForm)
	}
}

func TestBehindANumberThatIsCutOff(t *testing.T) {
	r := lay.Read([]byte(eight(3) + "1234567"))
	if n := r.Uint(); n != 3 {
		t.Errorf("Uint %d", n)
	}
	if n := r.Uint(); n != 0 {
		t.Errorf("Uint %d of seven bytes", n)
	}
	for range 2 {
		wantReader(t, r, 0, api.ErrForm, api.ErrForm)
		if r.Uint() != 0 || r.Int() != 0 || len(r.Bytes(9)) != 0 || len(r.Bytes(0)) != 0 {
			t.Error("something was read behind an error")
		}
	}
}

func TestEndChangesNothing(t *testing.T) {
	r := lay.Read([]byte(eight(1) + eight(2)))
	for range 3 {
		wantReader(t, r, 16, api.OK, api.ErrForm)
	}
	if r.Uint() != 1 || r.End() != api.ErrForm || r.Uint() != 2 {
		t.Error("End changed what is read")
	}
	for range 3 {
		wantReader(t, r, 0, api.OK, api.OK)
	}
	if r.Uint() != 0 {
		t.Error("a number behind the end")
	}
	wantReader(t, r, 0, api.ErrForm, api.ErrForm)
}

func TestReaderOfNothing(t *testing.T) {
	for _, b := range [][]byte{nil, {}} {
		wantReader(t, lay.Read(b), 0, api.OK, api.OK)
	}
	for left := 1; left < 10; left++ {
		wantReader(t, lay.Read(make([]byte, left)), left, api.OK, api.ErrForm)
	}
}

// P1.4

func TestWhatIsLaidIsRead(t *testing.T) {
	rnd := rand.New(rand.NewSource(1))
	for range 300 {
		var b []byte
		var asks []func(r *lay.Reader) bool
		for range rnd.Intn(8) {
			n, s := rnd.Uint64()>>rnd.Intn(64), make([]byte, rnd.Intn(20))
			rnd.Read(s)
			switch rnd.Intn(3) {
			case 0:
				b = lay.Uint(b, n)
				asks = append(asks, func(r *lay.Reader) bool { return r.Uint() == n })
			case 1:
				b = lay.Ints(b, int(n), -int(n))
				asks = append(asks, func(r *lay.Reader) bool { return r.Int() == int(n) && r.Int() == -int(n) })
			case 2:
				b = lay.Bytes(b, s)
				asks = append(asks, func(r *lay.Reader) bool { return bytes.Equal(r.Bytes(len(s)), s) })
			}
		}
		r := lay.Read(b)
		for i, ask := range asks {
			if !ask(r) {
				t.Fatalf("thing %d of %v is read as another one", i, b)
			}
		}
		wantReader(t, r, 0, api.OK, api.OK)
	}
}

// R4

func TestLaidBytesAreNewMemory(t *testing.T) {
	for name, put := range map[string]func(b []byte) []byte{
		"Uint":         func(b []byte) []byte { return lay.Uint(b, 7) },
		"Ints of one":  func(b []byte) []byte { return lay.Ints(b, 7) },
		"Ints of none": func(b []byte) []byte { return lay.Ints(b) },
		"Bytes":        func(b []byte) []byte { return lay.Bytes(b, []byte("z")) },
		"no Bytes":     func(b []byte) []byte { return lay.Bytes(b, nil) },
	} {
		for _, s := range []string{"", "a", "abcdefghi"} {
			for _, room := range []int{0, 1, 8, 40} {
				own := roomy(s, room, 'r')
				got := put(own)
				want := string(got)
				if string(own[:cap(own)]) != s+strings.Repeat("r", room) {
					t.Errorf("%s changed what was handed in: %q", name, own[:cap(own)])
				}
				fill(own, 'X')
				if string(got) != want {
					t.Errorf("%s answers memory that was handed in", name)
				}
				fill(got, 'Y')
				if string(own[:cap(own)]) != strings.Repeat("X", cap(own)) {
					t.Errorf("%s answers memory that was handed in: its room", name)
				}
				if again := put([]byte(s)); string(again) != want {
					t.Errorf("%s tells %q, then %q", name, want, again)
				}
			}
		}
	}
}

func TestListsHandedInAreLeft(t *testing.T) {
	l := append(make([]int, 0, 9), 1, 2, 3)
	b := lay.Ints(nil, l...)
	if l[0] != 1 || l[1] != 2 || l[2] != 3 || l[:9][3] != 0 {
		t.Error(l[:9])
	}
	l[0] = 9
	if b[0] != 1 {
		t.Error("the numbers are kept")
	}
	s := roomy("ab", 20, 'r')
	b = lay.Bytes(nil, s)
	if string(s[:22]) != "ab"+strings.Repeat("r", 20) {
		t.Errorf("Bytes changed its text: %q", s[:22])
	}
	want := string(b)
	fill(s, 'X')
	if string(b) != want {
		t.Error("the text is kept")
	}
	fill(b, 'Y')
	if string(s[:22]) != strings.Repeat("X", 22) {
		t.Error("what is answered shares the text's memory")
	}
}

// The text may lie in the room behind the bytes, or be the bytes themselves.
func TestBytesOfMemoryThatIsShared(t *testing.T) {
	whole := []byte("abcdefghijklmnopqrstuvwxyz")
	if got := lay.Bytes(whole[:2], whole[2:5]); string(got) != "ab"+eight(3)+"cde" {
		t.Errorf("%q", got)
	}
	if got := lay.Bytes(whole[:3], whole[:3]); string(got) != "abc"+eight(3)+"abc" {
		t.Errorf("%q", got)
	}
	if string(whole) != "abcdefghijklmnopqrstuvwxyz" {
		t.Errorf("%q", whole)
	}
}

func TestLaidBytesShareNothingWithEachOther(t *testing.T) {
	base := lay.Ints(nil, 1)
	one, two := lay.Uint(base, 2), lay.Bytes(base, []byte("two"))
	three := lay.Ints(base)
	fill(three, 'X')
	if string(base) != eight(1) || string(one) != eight(1)+eight(2) || string(two) != eight(1)+eight(3)+"two" {
		t.Errorf("%q %q %q", base, one, two)
	}
}

func TestReaderKeepsNothingHandedIn(t *testing.T) {
	own := roomy(eight(2)+"ab"+eight(5), 20, 'r')
	r := lay.Read(own)
	whole := own[:cap(own)]
	before := string(whole)
	fill(own, 'X')
	if s := r.Bytes(2); string(s) != "ab" {
		t.Errorf("Bytes %q", s)
	}
	if n := r.Uint(); n != 5 {
		t.Errorf("Uint %d", n)
	}
	wantReader(t, r, 0, api.OK, api.OK)
	copy(whole, before)
	r = lay.Read(own)
	s := r.Bytes(2)
	fill(s, 'Y')
	r.Int()
	if r.Uint() != 0 || r.Errno() != api.ErrForm {
		t.Error("the spare room is read")
	}
	if string(whole) != before {
		t.Errorf("what was handed in is %q now", whole)
	}
}

func TestReadBytesAreNewMemory(t *testing.T) {
	r := lay.Read([]byte(eight(2) + "ab" + eight(0) + eight(3) + "cde" + eight(6)))
	one := r.Bytes(9)
	fill(one, 'X')
	none := r.Bytes(9)
	fill(none, 'Y')
	two := r.Bytes(9)
	if string(two) != "cde" {
		t.Errorf("%q", two)
	}
	fill(two, 'Z')
	if n := r.Int(); n != 6 {
		t.Errorf("Int %d", n)
	}
	if string(one) != "XX" || len(none) != 0 || string(two) != "ZZZ" {
		t.Errorf("%q %q %q", one, none, two)
	}
	wantReader(t, r, 0, api.OK, api.OK)
}

// fill writes into a list and all of its room.
func fill(b []byte, x byte) {
	b = b[:cap(b)]
	for i := range b {
		b[i] = x
	}
}

// FuzzRead holds a reader against what the chapter says, told in another way.
func FuzzRead(f *testing.F) {
	f.Add([]byte(eight(2)+"ab"), []byte{0, 2, 1})
	f.Add([]byte("\xff\xff\xff\xff\xff\xff\xff\xffab"), []byte{2, 255})
	f.Fuzz(func(t *testing.T, b, calls []byte) {
		r, at, bad := lay.Read(b), 0, false
		next := func() uint64 {
			if bad || len(b)-at < 8 {
				bad = true
				return 0
			}
			at += 8
			return binary.LittleEndian.Uint64(b[at-8:])
		}
		for _, c := range calls {
			switch c % 3 {
			case 0:
				if got, want := r.Uint(), next(); got != want {
					t.Fatal(got, want)
				}
			case 1:
				if got, want := r.Int(), int(next()); got != want {
					t.Fatal(got, want)
				}
			case 2:
				most, want := int(int8(c)), []byte(nil)
				n := next()
				if most < 0 || n > uint64(most) || n > uint64(len(b)-at) {
					bad = true
				}
				if !bad {
					want, at = b[at:at+int(n)], at+int(n)
				}
				if got := r.Bytes(most); !bytes.Equal(got, want) {
					t.Fatal(got, want)
				}
			}
			left, errno, end := len(b)-at, api.OK, api.OK
			if bad {
				left, errno = 0, api.ErrForm
			}
			if bad || left > 0 {
				end = api.ErrForm
			}
			wantReader(t, r, left, errno, end)
		}
	})
}
