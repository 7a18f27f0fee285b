package crc_test

import (
	"bytes"
	"encoding/binary"
	"hash/crc32"
	"math/rand"
	"strings"
	"testing"

	"allotment/api"
	"allotment/crc"
)

// plain is the check of bytes as the chapter's words tell it, bit by bit.
func plain(b []byte) uint32 {
	n := uint32(0xffffffff)
	for _, x := range b {
		n ^= uint32(x)
		for range 8 {
			odd := n%2 == 1
			n /= 2
			if odd {
				n ^= 0xEDB88320
			}
		}
	}
	return 0xffffffff - n
}

// put is bytes with their check behind them, told by the library.
func put(s string) string {
	return string(binary.LittleEndian.AppendUint32([]byte(s), crc32.ChecksumIEEE([]byte(s))))
}

// someTexts are texts of several lengths, without any bytes and with all.
func someTexts() []string {
	all := make([]byte, 256)
	for i := range all {
		all[i] = byte(i)
	}
	texts := []string{"", "\x00", "\xff", "a", "ab", "abc", "abcd", "\x00\x00\x00\x00", "\xff\xff\xff\xff", "12345678", "123456789", strings.Repeat("\x00", 16), strings.Repeat("\xff", 32), string(all), strings.Repeat("page", 1000)}
	rnd := rand.New(rand.NewSource(2))
	for n := range 40 {
		b := make([]byte, n)
		rnd.Read(b)
		texts = append(texts, string(b))
	}
	return texts
}

// roomy is a text in a list with spare room, which holds the byte x.
func roomy(s string, room int, x byte) []byte {
	whole := append([]byte(s), bytes.Repeat([]byte{x}, room)...)
	return whole[:len(s):len(whole)]
}

// fill writes into a list and all of its room.
func fill(b []byte, x byte) {
	b = b[:cap(b)]
	for i := range b {
		b[i] = x
	}
}

// wantTake holds Take against what it should tell.
func wantTake(t *testing.T, s, want string, errno api.Errno) {
	t.Helper()
	if b, e := crc.Take([]byte(s)); string(b) != want || e != errno {
		t.Errorf("Take(%q): %q, %d; want %q, %d", s, b, e, want, errno)
	}
}

// P2.1

func TestSumOfKnownBytes(t *testing.T) {
	for s, want := range map[string]uint32{
		"":                 0,
		"\x00":             0xd202ef8d,
		"\xff":             0xff000000,
		"a":                0xe8b7be43,
		"123456789":        3421780262,
		"\x00\x00\x00\x00": 0x2144df1c,
		"\xff\xff\xff\xff": 0xffffffff,
		"The quick brown fox jumps over the lazy dog": 0x414fa339,
	} {
		if got := crc.Sum([]byte(s)); got != want {
			t.Errorf("Sum(%q): %d, want %d", s, got, want)
		}
	}
	if crc.Sum(nil) != 0 {
		t.Error("the check of nil is not that of no bytes")
	}
}

func TestSumIsTheCheck(t *testing.T) {
	for _, s := range someTexts() {
		b := []byte(s)
		if got := crc.Sum(b); got != plain(b) || got != crc32.ChecksumIEEE(b) {
			t.Errorf("Sum(%q): %d, want %d", s, got, plain(b))
		}
	}
	for i := range 1 << 16 {
		b := []byte{byte(i), byte(i >> 8)}
		if got, want := crc.Sum(b[:1]), plain(b[:1]); got != want {
			t.Fatalf("Sum(%v): %d, want %d", b[:1], got, want)
		}
		if got, want := crc.Sum(b), plain(b); got != want {
			t.Fatalf("Sum(%v): %d, want %d", b, got, want)
		}
	}
}

func TestSumOfManyBytes(t *testing.T) {
	b := make([]byte, 1<<20+3)
	rand.New(rand.NewSource(3)).Read(b)
	if got, want := crc.Sum(b), crc32.ChecksumIEEE(b); got != want {
		t.Errorf("%d, want %d", got, want)
	}
}

func TestMoreGoesOn(t *testing.T) {
	for _, s := range someTexts() {
		b, want := []byte(s), plain([]byte(s))
		for i := range min(len(b), 300) + 1 {
			if got := crc.More(crc.Sum(b[:i]), b[i:]); got != want {
				t.Errorf("%q, cut at %d: %d, want %d", s, i, got, want)
			}
		}
		one := crc.Sum(nil)
		for i := range b {
			one = crc.More(one, b[i:i+1])
		}
		if one != want {
			t.Errorf("%q, byte by byte: %d, want %d", s, one, want)
		}
	}
}

// Each number of 32 bits is the check of some bytes: all of them may be told.
func TestMoreOfAnyCheck(t *testing.T) {
	sums := []uint32{0, 1, 2, 255, 256, 1<<31 - 1, 1 << 31, 1<<32 - 2, 1<<32 - 1, 0xEDB88320, 3421780262}
	rnd := rand.New(rand.NewSource(4))
	for range 50 {
		sums = append(sums, rnd.Uint32())
	}
	for _, sum := range sums {
		for _, none := range [][]byte{nil, {}} {
			if got := crc.More(sum, none); got != sum {
				t.Errorf("More(%d, none): %d", sum, got)
			}
		}
		for _, s := range someTexts() {
			if got, want := crc.More(sum, []byte(s)), crc32.Update(sum, crc32.IEEETable, []byte(s)); got != want {
				t.Errorf("More(%d, %q): %d, want %d", sum, s, got, want)
			}
		}
	}
}

// P2.2

func TestPutLowestByteFirst(t *testing.T) {
	for _, s := range someTexts() {
		if got := crc.Put([]byte(s)); string(got) != put(s) {
			t.Errorf("Put(%q): %q, want %q", s, got, put(s))
		}
	}
	if got := string(crc.Put([]byte("123456789"))); got != "123456789\x26\x39\xf4\xcb" {
		t.Errorf("Put(123456789): %q", got)
	}
	for _, none := range [][]byte{nil, {}} {
		if got := string(crc.Put(none)); got != "\x00\x00\x00\x00" {
			t.Errorf("Put of none: %q", got)
		}
	}
}

func TestTakeTheBytesAhead(t *testing.T) {
	for _, s := range someTexts() {
		wantTake(t, put(s), s, api.OK)
		wantTake(t, put(put(s)), put(s), api.OK)
	}
	wantTake(t, "123456789\x26\x39\xf4\xcb", "123456789", api.OK)
	wantTake(t, "\x00\x00\x00\x00", "", api.OK)
	wantTake(t, "\xff\xff\xff\xff\xff\xff\xff\xff", "\xff\xff\xff\xff", api.OK)
}

func TestTakeOfFewerThanFour(t *testing.T) {
	if b, e := crc.Take(nil); len(b) != 0 || e != api.ErrForm {
		t.Errorf("Take(nil): %q, %d", b, e)
	}
	for n := range 4 {
		for _, s := range []string{"\x00\x00\x00", "\xff\xff\xff", "abc", "\x43\xbe\xb7"} {
			wantTake(t, s[:n], "", api.ErrForm)
		}
	}
	// The four bytes must be there, not just room for them.
	if b, e := crc.Take(roomy("", 8, 0)); len(b) != 0 || e != api.ErrForm {
		t.Errorf("Take of room: %q, %d", b, e)
	}
	if b, e := crc.Take([]byte("\x00\x00\x00\x00")[:3]); len(b) != 0 || e != api.ErrForm {
		t.Errorf("Take of room: %q, %d", b, e)
	}
}

func TestTakeOfExactlyFour(t *testing.T) {
	wantTake(t, "\x00\x00\x00\x00", "", api.OK)
	wantTake(t, "abcd", "", api.ErrIO)
	wantTake(t, "\xff\xff\xff\xff", "", api.ErrIO)
	for i := range 4 {
		for x := 1; x < 256; x++ {
			b := make([]byte, 4)
			b[i] = byte(x)
			wantTake(t, string(b), "", api.ErrIO)
		}
	}
}

func TestTakeOfAnotherCheck(t *testing.T) {
	for _, s := range []string{
		"123456789\xcb\xf4\x39\x26", // the highest byte first
		"123456789\xd9\xc6\x0b\x34", // its bits are not turned
		"\xcb\xf4\x39\x26" + "123456789",
		"\x26\x39\xf4\xcb" + "123456789", // ahead of the bytes
		"123456798\x26\x39\xf4\xcb",      // two bytes changed their places
		"a\x00\x00\x00\x00",
		"\x00\x00\x00\x00\x00",
		"\x00\x00\x00\x00\x00\x00\x00\x00",
	} {
		wantTake(t, s, "", api.ErrIO)
	}
}

// P2.3

func TestWhatWasPutIsTaken(t *testing.T) {
	for _, s := range someTexts() {
		if b, e := crc.Take(crc.Put([]byte(s))); string(b) != s || e != api.OK {
			t.Errorf("%q is taken as %q, %d", s, b, e)
		}
	}
}

func TestOneByteIsAnotherOne(t *testing.T) {
	for _, s := range []string{"", "\x00", "a", "abcd", "123456789", strings.Repeat("\x00", 16), strings.Repeat("\xff", 16), "a page of thirty-two bytes, whole"} {
		b := crc.Put([]byte(s))
		for i := range b {
			was := b[i]
			for x := range 256 {
				if b[i] = byte(x); b[i] == was {
					continue
				}
				if got, e := crc.Take(b); len(got) != 0 || e != api.ErrIO {
					t.Fatalf("%q, the byte %d as %d: %q, %d", s, i, x, got, e)
				}
			}
			b[i] = was
		}
	}
}

func TestBytesAreCutOff(t *testing.T) {
	for _, s := range []string{"", "a", "abcd", "123456789", "a page of thirty-two bytes, whole"} {
		p := string(crc.Put([]byte(s)))
		for n := range len(p) {
			want := api.ErrIO
			if n < 4 {
				want = api.ErrForm
			}
			wantTake(t, p[:n], "", want)
			wantTake(t, p[len(p)-n:], "", want)
		}
	}
}

func TestOneByteMore(t *testing.T) {
	for _, s := range []string{"", "a", "abcd", "123456789", strings.Repeat("\x00", 16), strings.Repeat("\xff", 16)} {
		p := string(crc.Put([]byte(s)))
		for x := range 256 {
			more := string([]byte{byte(x)})
			wantTake(t, p+more, "", api.ErrIO)
			wantTake(t, more+p, "", api.ErrIO)
		}
	}
}

// R2

func TestBesideAnErrorNoBytesAreTold(t *testing.T) {
	for _, s := range []string{"", "abc", "abcd", "123456789\x26\x39\xf4\xcc", "123456789\x26\x39\xf4"} {
		own := roomy(s, 20, 'r')
		b, e := crc.Take(own)
		if e == api.OK || len(b) != 0 {
			t.Errorf("Take(%q): %q, %d", s, b, e)
		}
		fill(b, 'Y')
		if string(own[:cap(own)]) != s+strings.Repeat("r", 20) {
			t.Errorf("a Take that is refused changed what was handed in: %q", own[:cap(own)])
		}
	}
}

// R4

func TestSumLeavesWhatIsHandedIn(t *testing.T) {
	for _, s := range someTexts() {
		own := roomy(s, 9, 'r')
		if sum := crc.Sum(own); sum != plain([]byte(s)) || crc.Sum(own) != sum {
			t.Errorf("%q: the room is told, or something is kept", s)
		}
		if crc.More(7, own) != crc.More(7, []byte(s)) {
			t.Errorf("%q: the room is told by More", s)
		}
		if string(own[:cap(own)]) != s+"rrrrrrrrr" {
			t.Errorf("%q is changed to %q", s, own[:cap(own)])
		}
	}
}

func TestAnswersAreNewMemory(t *testing.T) {
	take := func(b []byte) []byte {
		got, e := crc.Take(b)
		if e != api.OK {
			t.Errorf("Take(%q): %d", b, e)
		}
		return got
	}
	for name, x := range map[string]struct {
		do func(b []byte) []byte
		of func(s string) string
	}{
		"Put":  {crc.Put, func(s string) string { return s }},
		"Take": {take, put},
	} {
		for _, text := range []string{"", "a", "abcdefghi", strings.Repeat("page", 100)} {
			for _, room := range []int{0, 1, 4, 40} {
				s := x.of(text)
				own := roomy(s, room, 'r')
				got := x.do(own)
				want := string(got)
				if string(own[:cap(own)]) != s+strings.Repeat("r", room) {
					t.Errorf("%s changed what was handed in: %q", name, own[:cap(own)])
				}
				second := x.do(own)
				fill(own, 'X')
				if string(got) != want || string(second) != want {
					t.Errorf("%s answers memory that was handed in", name)
				}
				fill(got, 'Y')
				if string(own[:cap(own)]) != strings.Repeat("X", cap(own)) {
					t.Errorf("%s answers memory that was handed in, or its room", name)
				}
				if string(second) != want {
					t.Errorf("%s answers one memory twice", name)
				}
				if again := x.do([]byte(s)); string(again) != want {
					t.Errorf("%s tells %q, then %q", name, want, again)
				}
			}
		}
	}
}

// FuzzTake holds all calls against the library's check.
func FuzzTake(f *testing.F) {
	f.Add([]byte("123456789\x26\x39\xf4\xcb"), 9)
	f.Add([]byte("\x00\x00\x00\x00"), 0)
	f.Add([]byte("abc"), 2)
	f.Fuzz(func(t *testing.T, b []byte, cut int) {
		sum := crc32.ChecksumIEEE(b)
		if got := crc.Sum(b); got != sum {
			t.Fatal(got, sum)
		}
		if cut >= 0 && cut <= len(b) && crc.More(crc.Sum(b[:cut]), b[cut:]) != sum {
			t.Fatal("cut at", cut)
		}
		if got := crc.Put(b); string(got) != put(string(b)) {
			t.Fatalf("%q", got)
		}
		want, errno := []byte(nil), api.ErrForm
		if n := len(b) - 4; n >= 0 {
			errno = api.ErrIO
			if put(string(b[:n])) == string(b) {
				want, errno = b[:n], api.OK
			}
		}
		wantTake(t, string(b), string(want), errno)
		wantTake(t, put(string(b)), string(b), api.OK)
	})
}
