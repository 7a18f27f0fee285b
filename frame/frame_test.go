package frame_test

import (
	"math"
	"math/rand"
	"strings"
	"testing"

	"allotment/api"
	"allotment/cell"
	"allotment/frame"
)

const letters = "0123456789abcdefghijklmnopqrstuv"

// noughts are n bytes 0.
func noughts(n int) string { return strings.Repeat("\x00", n) }

// somePages are texts of 32 bytes.
func somePages() []string {
	l := []string{letters, noughts(32), strings.Repeat("\xff", 32), noughts(31) + "\x01", "\x01" + noughts(31)}
	rnd := rand.New(rand.NewSource(1))
	for range 5 {
		l = append(l, drawn(rnd, 32))
	}
	return l
}

// drawn is n bytes by chance.
func drawn(rnd *rand.Rand, n int) string {
	b := make([]byte, n)
	rnd.Read(b)
	return string(b)
}

// pageNumbers are numbers that a page may have: all that an int has.
func pageNumbers() []int {
	return []int{0, 1, 2, 63, 64, 255, 256, 65536, 1 << 31, 1<<31 - 1, 1 << 32, 1<<32 + 1, 1 << 62, math.MaxInt - 1, math.MaxInt,
		-1, -2, -64, -1 << 31, -1<<31 - 1, -1 << 32, -1 << 62, math.MinInt, math.MinInt + 1}
}

// somePins are the edges of how often a frame may be pinned, and some between.
func somePins() []int { return []int{0, 1, 2, 50, 98, 99, 100} }

// allFlags are all flags, at some pins: such too as no call makes (dirty and
// not used, pinned and not used).
func allFlags() []frame.Flags {
	var l []frame.Flags
	for k := range 8 {
		for _, pins := range somePins() {
			l = append(l, frame.Flags{Used: k&1 != 0, Dirty: k&2 != 0, Ref: k&4 != 0, Pins: pins})
		}
	}
	return l
}

// made is a frame of these flags, that page and these bytes.
func made(t *testing.T, flags frame.Flags, page int, s string) *frame.Frame {
	t.Helper()
	f := &frame.Frame{}
	if e := f.Load(page, []byte(s)); e != api.OK {
		t.Fatalf("Load(%d, %q): %d", page, s, e)
	}
	f.Flags = flags
	return f
}

// pinned is a frame of the page 4 with the letters, pinned once and else as
// Load left it.
func pinned(t *testing.T) *frame.Frame {
	t.Helper()
	return made(t, frame.Flags{Used: true, Pins: 1}, 4, letters)
}

// hold holds all that is to be seen of a frame against what it should be.
func hold(t *testing.T, what string, f *frame.Frame, flags frame.Flags, page int, s string) {
	t.Helper()
	if f.Flags != flags || f.Page != page || string(f.Bytes()) != s {
		t.Errorf("%s: %+v, page %d, %q; want %+v, page %d, %q", what, f.Flags, f.Page, f.Bytes(), flags, page, s)
	}
	if *f != *made(t, flags, page, s) {
		t.Errorf("%s: by == it is not the frame %+v, page %d, %q", what, flags, page, s)
	}
}

// eachFrame has frames of all flags looked at, each a new one.
func eachFrame(t *testing.T, look func(f *frame.Frame, was frame.Flags)) {
	t.Helper()
	for _, flags := range allFlags() {
		look(made(t, flags, 4, letters), flags)
	}
}

// isThere says whether n bytes from off on are within a page, by going through
// all those that are.
func isThere(off, n int) bool {
	for from := range 33 {
		for to := from; to < 33; to++ {
			if off == from && n == to-from {
				return true
			}
		}
	}
	return false
}

// places are pairs of a place and a number: all about a page's both ends, and
// such as come to a right one if a sum runs over or bits are not looked at.
func places() [][2]int {
	var l [][2]int
	for off := -3; off < 37; off++ {
		for n := -3; n < 37; n++ {
			l = append(l, [2]int{off, n})
		}
	}
	far := []int{math.MinInt, math.MinInt + 1, -1 << 32, -1 << 31, -33, -32, -1, 0, 1, 31, 32, 33, 256, 1 << 31, 1 << 32, 1<<32 + 1, 1 << 62, math.MaxInt - 31, math.MaxInt - 1, math.MaxInt}
	for _, off := range far {
		for _, n := range far {
			l = append(l, [2]int{off, n})
		}
	}
	return l
}

// The example

func TestExample(t *testing.T) {
	f := &frame.Frame{}
	if e := f.Load(3, make([]byte, 32)); e != api.OK {
		t.Fatal("Load", e)
	}
	if e := f.Pin(); e != api.OK {
		t.Fatal("Pin", e)
	}
	if e := f.Put(0, []byte{7}); e != api.OK || !f.Dirty {
		t.Error("Put", e, f.Flags)
	}
	if b, e := f.Get(0, 1); e != api.OK || string(b) != "\x07" {
		t.Error("Get", b, e)
	}
	if e := f.Unpin(); e != api.OK {
		t.Error("Unpin", e)
	}
	was := *f
	if b, e := f.Get(0, 1); e != api.ErrNotPinned || len(b) != 0 || *f != was {
		t.Error("Get behind Unpin", b, e)
	}
	hold(t, "behind all", f, frame.Flags{Used: true, Dirty: true, Ref: true}, 3, "\x07"+noughts(31))
}

// Words

// wantEmpty holds a frame against the empty one.
func wantEmpty(t *testing.T, what string, f *frame.Frame) {
	t.Helper()
	if *f != (frame.Frame{}) || f.Used || f.Dirty || f.Ref || f.Pins != 0 || f.Page != 0 || string(f.Bytes()) != noughts(32) {
		t.Errorf("%s: %+v, page %d, %q", what, f.Flags, f.Page, f.Bytes())
	}
}

// A frame that no call gave is an empty one, wherever it stands.
func TestEmptyFrames(t *testing.T) {
	var alone frame.Frame
	var many [3]frame.Frame
	list := make([]frame.Frame, 3)
	for _, f := range []*frame.Frame{&alone, {}, new(frame.Frame), &many[0], &many[2], &list[1]} {
		wantEmpty(t, "at first", f)
		if e := f.Pin(); e != api.ErrNotPinned {
			t.Error("Pin", e)
		}
		if e := f.Unpin(); e != api.ErrNotPinned {
			t.Error("Unpin", e)
		}
		if !f.Free() || !f.Flags.Free() {
			t.Error("Free: false")
		}
		if b, e := f.Get(0, 1); e != api.ErrNotPinned || len(b) != 0 {
			t.Error("Get", b, e)
		}
		if e := f.Put(0, []byte{7}); e != api.ErrNotPinned {
			t.Error("Put", e)
		}
		if e := f.Load(0, nil); e != api.ErrForm {
			t.Error("Load", e)
		}
		wantEmpty(t, "behind calls that were refused", f)
		f.Zero()
		wantEmpty(t, "behind Zero", f)
	}
}

// Flags and frames can be compared by ==; each thing of them tells.
func TestCompared(t *testing.T) {
	var flags frame.Flags
	var f frame.Frame
	if flags != (frame.Flags{}) || f != (frame.Frame{}) {
		t.Error("zero ones are not the same")
	}
	base := made(t, frame.Flags{Used: true}, 4, letters)
	if *base != *made(t, frame.Flags{Used: true}, 4, strings.Clone(letters)) {
		t.Error("two of the same page are not the same")
	}
	for i := range 32 {
		other := []byte(letters)
		other[i] ^= 1
		if *base == *made(t, frame.Flags{Used: true}, 4, string(other)) {
			t.Errorf("the byte %d does not tell", i)
		}
	}
	for _, p := range pageNumbers() {
		if p != 4 && *base == *made(t, frame.Flags{Used: true}, p, letters) {
			t.Errorf("the page %d is 4's", p)
		}
	}
	eachFrame(t, func(f *frame.Frame, was frame.Flags) {
		if (*f == *base) != (was == frame.Flags{Used: true}) {
			t.Errorf("%+v: == tells %t", was, *f == *base)
		}
	})
}

// The flags' calls and fields are the frame's own.
func TestPromoted(t *testing.T) {
	f := made(t, frame.Flags{Used: true}, 4, letters)
	if e := f.Flags.Pin(); e != api.OK || f.Pins != 1 || !f.Ref || f.Free() {
		t.Error("Flags.Pin", e, f.Flags)
	}
	if e := f.Pin(); e != api.OK || f.Flags.Pins != 2 || f.Flags.Free() {
		t.Error("Pin", e, f.Flags)
	}
	if e := f.Flags.Unpin(); e != api.OK || f.Pins != 1 {
		t.Error("Flags.Unpin", e, f.Flags)
	}
	if e := f.Unpin(); e != api.OK || f.Flags.Pins != 0 || !f.Flags.Free() {
		t.Error("Unpin", e, f.Flags)
	}
	pin, unpin, free := (*frame.Frame).Pin, (*frame.Frame).Unpin, (*frame.Frame).Free
	if pin(f) != api.OK || free(f) || unpin(f) != api.OK || !free(f) {
		t.Error("by method expressions", f.Flags)
	}
	hold(t, "behind all", f, frame.Flags{Used: true, Ref: true}, 4, letters)
}

// P12.1

// wantPin is what Pin must tell, and the flags behind it.
func wantPin(was frame.Flags) (frame.Flags, api.Errno) {
	switch {
	case !was.Used:
		return was, api.ErrNotPinned
	case was.Pins == 100:
		return was, api.ErrFull
	}
	return frame.Flags{Used: true, Dirty: was.Dirty, Ref: true, Pins: was.Pins + 1}, api.OK
}

// wantUnpin is what Unpin must tell, and the flags behind it.
func wantUnpin(was frame.Flags) (frame.Flags, api.Errno) {
	if was.Pins == 0 {
		return was, api.ErrNotPinned
	}
	return frame.Flags{Used: was.Used, Dirty: was.Dirty, Ref: was.Ref, Pins: was.Pins - 1}, api.OK
}

func TestPinOfAllFlags(t *testing.T) {
	for _, was := range allFlags() {
		flags := was
		want, errno := wantPin(was)
		if e := flags.Pin(); e != errno || flags != want {
			t.Errorf("Pin of %+v: %d, %+v; want %d, %+v", was, e, flags, errno, want)
		}
	}
	eachFrame(t, func(f *frame.Frame, was frame.Flags) {
		want, errno := wantPin(was)
		if e := f.Pin(); e != errno {
			t.Errorf("Pin of a frame %+v: %d, want %d", was, e, errno)
		}
		hold(t, "behind Pin", f, want, 4, letters)
	})
}

func TestUnpinOfAllFlags(t *testing.T) {
	for _, was := range allFlags() {
		flags := was
		want, errno := wantUnpin(was)
		if e := flags.Unpin(); e != errno || flags != want {
			t.Errorf("Unpin of %+v: %d, %+v; want %d, %+v", was, e, flags, errno, want)
		}
	}
	eachFrame(t, func(f *frame.Frame, was frame.Flags) {
		want, errno := wantUnpin(was)
		if e := f.Unpin(); e != errno {
			t.Errorf("Unpin of a frame %+v: %d, want %d", was, e, errno)
		}
		hold(t, "behind Unpin", f, want, 4, letters)
	})
}

func TestFreeOfAllFlags(t *testing.T) {
	for _, was := range allFlags() {
		flags := was
		if free := flags.Free(); free != (was.Pins == 0) || flags != was {
			t.Errorf("Free of %+v: %t, %+v", was, free, flags)
		}
	}
	eachFrame(t, func(f *frame.Frame, was frame.Flags) {
		if free := f.Free(); free != (was.Pins == 0) {
			t.Errorf("Free of a frame %+v: %t", was, free)
		}
		hold(t, "behind Free", f, was, 4, letters)
	})
}

// A frame that is not used is no pinned one ahead of being full.
func TestPinTellsNotUsedFirst(t *testing.T) {
	flags := frame.Flags{Pins: 100}
	if e := flags.Pin(); e != api.ErrNotPinned || flags != (frame.Flags{Pins: 100}) {
		t.Errorf("%d, %+v", e, flags)
	}
}

// Up to 100 and down again, one by one, and a step beyond both ends.
func TestPinsFrom0To100(t *testing.T) {
	f := made(t, frame.Flags{Used: true}, 4, letters)
	for pins := range 100 {
		if f.Ref = false; f.Pins != pins || f.Free() != (pins == 0) {
			t.Fatalf("at %d: %+v", pins, f.Flags)
		}
		if e := f.Pin(); e != api.OK || !f.Ref {
			t.Fatalf("Pin at %d: %d, %+v", pins, e, f.Flags)
		}
	}
	for range 3 {
		f.Ref = false
		if e := f.Pin(); e != api.ErrFull {
			t.Errorf("Pin at 100: %d", e)
		}
		hold(t, "behind Pin at 100", f, frame.Flags{Used: true, Pins: 100}, 4, letters)
	}
	for pins := 100; pins > 0; pins-- {
		if e := f.Unpin(); e != api.OK || f.Pins != pins-1 || f.Free() != (pins == 1) || f.Ref {
			t.Fatalf("Unpin at %d: %d, %+v", pins, e, f.Flags)
		}
	}
	for range 3 {
		if e := f.Unpin(); e != api.ErrNotPinned {
			t.Errorf("Unpin at 0: %d", e)
		}
		hold(t, "behind Unpin at 0", f, frame.Flags{Used: true}, 4, letters)
	}
}

// P12.2

func TestLoadOfAllFlags(t *testing.T) {
	for _, s := range somePages() {
		for _, page := range pageNumbers() {
			eachFrame(t, func(f *frame.Frame, was frame.Flags) {
				if e := f.Load(page, []byte(s)); e != api.OK {
					t.Fatalf("Load(%d, %q) of %+v: %d", page, s, was, e)
				}
				hold(t, "behind Load", f, frame.Flags{Used: true}, page, s)
			})
		}
	}
}

// Page is the number that Load was handed, whatever it is.
func TestLoadIsOfThatPage(t *testing.T) {
	f := &frame.Frame{}
	for _, page := range pageNumbers() {
		if e := f.Load(page, []byte(letters)); e != api.OK || f.Page != page || !f.Used || f.Dirty || f.Ref || f.Pins != 0 || string(f.Bytes()) != letters {
			t.Errorf("Load(%d, ..): %d, %+v, page %d, %q", page, e, f.Flags, f.Page, f.Bytes())
		}
	}
}

// lengths are those that no page has, such too as have its length if some
// bits are not looked at.
func lengths() []int {
	l := []int{64, 128, 255, 256, 256 + 32, 512 + 32, 1<<16 + 32, 1<<20 + 32}
	for n := range 64 {
		if n != 32 {
			l = append(l, n)
		}
	}
	return l
}

func TestLoadOfAnotherLength(t *testing.T) {
	for _, n := range lengths() {
		b := []byte(strings.Repeat("x", n))
		eachFrame(t, func(f *frame.Frame, was frame.Flags) {
			if e := f.Load(9, b); e != api.ErrForm {
				t.Fatalf("Load of %d bytes, of %+v: %d", n, was, e)
			}
			hold(t, "behind Load that was refused", f, was, 4, letters)
		})
	}
}

// What counts is a list's length, not the room behind it.
func TestLoadOfListsWithRoom(t *testing.T) {
	room := []byte(letters + letters)
	f := pinned(t)
	for _, b := range [][]byte{nil, {}, room[:0], room[:31], room[:33], room} {
		was := *f
		if e := f.Load(9, b); e != api.ErrForm || *f != was {
			t.Errorf("Load of %d bytes: %d, %+v", len(b), e, f.Flags)
		}
	}
	if e := f.Load(9, room[5:37]); e != api.OK {
		t.Error(e)
	}
	hold(t, "behind Load", f, frame.Flags{Used: true}, 9, letters[5:]+letters[:5])
	if string(room) != letters+letters {
		t.Errorf("what was handed in is changed: %q", room)
	}
}

func TestZeroOfAllFlags(t *testing.T) {
	for _, s := range somePages() {
		for _, page := range pageNumbers() {
			for _, flags := range allFlags() {
				f := made(t, flags, page, s)
				f.Zero()
				wantEmpty(t, "behind Zero", f)
			}
		}
	}
}

func TestBytesOfAllFlags(t *testing.T) {
	for _, s := range somePages() {
		for _, flags := range allFlags() {
			f := made(t, flags, 7, s)
			if b := f.Bytes(); string(b) != s {
				t.Errorf("Bytes of %+v: %q, want %q", flags, b, s)
			}
			hold(t, "behind Bytes", f, flags, 7, s)
		}
	}
}

// P12.3

// wantGet holds Get of a frame of these flags, and what is behind it, against
// what the chapter tells.
func wantGet(t *testing.T, was frame.Flags, off, n int) {
	t.Helper()
	f := made(t, was, 4, letters)
	b, e := f.Get(off, n)
	want, errno, flags := "", api.ErrRange, was
	switch {
	case was.Pins == 0:
		errno = api.ErrNotPinned
	case isThere(off, n):
		want, errno, flags.Ref = letters[off:off+n], api.OK, true
	}
	if string(b) != want || e != errno {
		t.Errorf("Get(%d, %d) of %+v: %q, %d; want %q, %d", off, n, was, b, e, want, errno)
	}
	hold(t, "behind Get", f, flags, 4, letters)
}

// wantPut does so of Put.
func wantPut(t *testing.T, was frame.Flags, off int, s string) {
	t.Helper()
	f := made(t, was, 4, letters)
	e := f.Put(off, []byte(s))
	want, errno, flags := letters, api.ErrRange, was
	switch {
	case was.Pins == 0:
		errno = api.ErrNotPinned
	case isThere(off, len(s)):
		want, errno = letters[:off]+s+letters[off+len(s):], api.OK
		flags.Ref, flags.Dirty = true, true
	}
	if e != errno {
		t.Errorf("Put(%d, %q) of %+v: %d, want %d", off, s, was, e, errno)
	}
	hold(t, "behind Put", f, flags, 4, want)
}

func TestGetOfKnownPieces(t *testing.T) {
	f := pinned(t)
	for _, x := range []struct {
		off, n int
		want   string
		errno  api.Errno
	}{
		{0, 1, "0", api.OK}, {0, 0, "", api.OK}, {31, 1, "v", api.OK}, {30, 2, "uv", api.OK}, {15, 2, "fg", api.OK},
		{16, 16, "ghijklmnopqrstuv", api.OK}, {0, 32, letters, api.OK}, {32, 0, "", api.OK},
		{31, 2, "", api.ErrRange}, {32, 1, "", api.ErrRange}, {33, 0, "", api.ErrRange}, {0, 33, "", api.ErrRange},
		{1, 32, "", api.ErrRange}, {-1, 1, "", api.ErrRange}, {0, -1, "", api.ErrRange}, {33, -1, "", api.ErrRange},
	} {
		f.Ref = false
		b, e := f.Get(x.off, x.n)
		if string(b) != x.want || e != x.errno {
			t.Errorf("Get(%d, %d): %q, %d; want %q, %d", x.off, x.n, b, e, x.want, x.errno)
		}
		hold(t, "behind Get", f, frame.Flags{Used: true, Ref: e == api.OK, Pins: 1}, 4, letters)
	}
}

func TestPutOfKnownPieces(t *testing.T) {
	for _, x := range []struct {
		off     int
		s, want string
		errno   api.Errno
	}{
		{0, "X", "X123456789abcdefghijklmnopqrstuv", api.OK}, {31, "X", "0123456789abcdefghijklmnopqrstuX", api.OK},
		{30, "XY", "0123456789abcdefghijklmnopqrstXY", api.OK}, {15, "XY", "0123456789abcdeXYhijklmnopqrstuv", api.OK},
		{0, noughts(32), noughts(32), api.OK}, {0, "", letters, api.OK}, {9, "", letters, api.OK}, {32, "", letters, api.OK},
		{31, "XY", letters, api.ErrRange}, {32, "X", letters, api.ErrRange}, {33, "", letters, api.ErrRange},
		{0, noughts(33), letters, api.ErrRange}, {1, noughts(32), letters, api.ErrRange}, {-1, "X", letters, api.ErrRange}, {-1, "", letters, api.ErrRange},
	} {
		f := pinned(t)
		e := f.Put(x.off, []byte(x.s))
		if e != x.errno {
			t.Errorf("Put(%d, %q): %d, want %d", x.off, x.s, e, x.errno)
		}
		hold(t, "behind Put", f, frame.Flags{Used: true, Dirty: e == api.OK, Ref: e == api.OK, Pins: 1}, 4, x.want)
	}
}

func TestGetAtAllPlaces(t *testing.T) {
	for _, x := range places() {
		for _, pins := range []int{0, 1, 100} {
			wantGet(t, frame.Flags{Used: true, Pins: pins}, x[0], x[1])
		}
	}
	for _, flags := range allFlags() {
		for _, x := range [][2]int{{0, 0}, {0, 1}, {0, 32}, {0, 33}, {31, 1}, {31, 2}, {32, 0}, {33, 0}, {-1, 1}, {1, -1}, {math.MaxInt, 1}} {
			wantGet(t, flags, x[0], x[1])
		}
	}
}

func TestPutAtAllPlaces(t *testing.T) {
	other := strings.Repeat("\xfe", 40)
	for _, x := range places() {
		if x[1] < 0 || x[1] > len(other) {
			continue
		}
		for _, pins := range []int{0, 1, 100} {
			wantPut(t, frame.Flags{Used: true, Pins: pins}, x[0], other[:x[1]])
		}
	}
	for _, flags := range allFlags() {
		for _, off := range []int{math.MinInt, -1, 0, 1, 15, 16, 30, 31, 32, 33, math.MaxInt} {
			for _, n := range []int{0, 1, 2, 31, 32, 33} {
				wantPut(t, flags, off, other[:n])
			}
		}
	}
}

// What both refuse of a pinned frame is what chapter 8's calls refuse.
func TestErrorsAreTheCells(t *testing.T) {
	f := pinned(t)
	for _, x := range places() {
		want, errno := cell.Get([]byte(letters), x[0], x[1])
		if b, e := f.Get(x[0], x[1]); string(b) != string(want) || e != errno {
			t.Errorf("Get(%d, %d): %q, %d; of the page %q, %d", x[0], x[1], b, e, want, errno)
		}
		if x[1] < 0 || x[1] > 40 {
			continue
		}
		b := []byte(strings.Repeat("z", x[1]))
		page, errno := cell.Put([]byte(letters), x[0], b)
		if errno != api.OK {
			page = []byte(letters)
		}
		g := pinned(t)
		if e := g.Put(x[0], b); e != errno || string(g.Bytes()) != string(page) {
			t.Errorf("Put(%d, %q): %q, %d; into the page %q, %d", x[0], b, g.Bytes(), e, page, errno)
		}
	}
}

// One that is not pinned is so ahead of a place that is not there.
func TestNotPinnedComesFirst(t *testing.T) {
	f := made(t, frame.Flags{Used: true}, 4, letters)
	was := *f
	for _, x := range places() {
		if b, e := f.Get(x[0], x[1]); e != api.ErrNotPinned || len(b) != 0 || *f != was {
			t.Errorf("Get(%d, %d): %q, %d, %+v", x[0], x[1], b, e, f.Flags)
		}
		for _, b := range [][]byte{nil, []byte("x"), []byte(letters), make([]byte, 33)} {
			if e := f.Put(x[0], b); e != api.ErrNotPinned || *f != was {
				t.Errorf("Put(%d, %q): %d, %+v", x[0], b, e, f.Flags)
			}
		}
	}
}

func TestGetRefersAndDoesNotDirty(t *testing.T) {
	for _, dirty := range []bool{false, true} {
		f := made(t, frame.Flags{Used: true, Dirty: dirty, Pins: 3}, 4, letters)
		for off := range 33 {
			f.Ref = false
			if _, e := f.Get(off, 32-off); e != api.OK {
				t.Fatal(off, e)
			}
			hold(t, "behind Get", f, frame.Flags{Used: true, Dirty: dirty, Ref: true, Pins: 3}, 4, letters)
		}
	}
}

// Put of the bytes that stand there already, and of none, is one too.
func TestPutRefersAndDirties(t *testing.T) {
	for off := range 33 {
		for _, s := range []string{"", letters[off:]} {
			f := made(t, frame.Flags{Used: true, Pins: 3}, 4, letters)
			if e := f.Put(off, []byte(s)); e != api.OK {
				t.Fatal(off, e)
			}
			hold(t, "behind Put", f, frame.Flags{Used: true, Dirty: true, Ref: true, Pins: 3}, 4, letters)
		}
	}
	f := pinned(t)
	if e := f.Put(0, nil); e != api.OK || !f.Dirty || !f.Ref {
		t.Errorf("Put of nil: %d, %+v", e, f.Flags)
	}
}

// What is put is got again, and stays beside what is put later.
func TestPutOneBehindTheOther(t *testing.T) {
	f := pinned(t)
	want := []byte(letters)
	rnd := rand.New(rand.NewSource(2))
	for range 2000 {
		off := rnd.Intn(33)
		s := drawn(rnd, rnd.Intn(33-off))
		copy(want[off:], s)
		if e := f.Put(off, []byte(s)); e != api.OK {
			t.Fatal(off, s, e)
		}
		if b, e := f.Get(off, len(s)); string(b) != s || e != api.OK {
			t.Fatalf("Get(%d, %d): %q, %d; want %q", off, len(s), b, e, s)
		}
		hold(t, "behind Put", f, frame.Flags{Used: true, Dirty: true, Ref: true, Pins: 1}, 4, string(want))
	}
}

// P12.4

// A frame that has had much is the same by == as one that never had it.
func TestNothingIsLeft(t *testing.T) {
	rnd := rand.New(rand.NewSource(3))
	for range 300 {
		f := made(t, frame.Flags{Used: true, Dirty: true, Ref: true, Pins: 100}, rnd.Int()-rnd.Int(), drawn(rnd, 32))
		for range 20 {
			f.Put(rnd.Intn(32), []byte(drawn(rnd, rnd.Intn(5))))
			f.Unpin()
		}
		g := *f
		f.Zero()
		wantEmpty(t, "behind Zero", f)
		page, s := rnd.Intn(64), drawn(rnd, 32)
		fresh := &frame.Frame{}
		if f.Load(page, []byte(s)) != api.OK || g.Load(page, []byte(s)) != api.OK || fresh.Load(page, []byte(s)) != api.OK {
			t.Fatal("Load")
		}
		if *f != *fresh || g != *fresh {
			t.Errorf("behind Load: %+v, %+v; a new one %+v", *f, g, *fresh)
		}
		hold(t, "behind Load", f, frame.Flags{Used: true}, page, s)
		hold(t, "behind Load", &g, frame.Flags{Used: true}, page, s)
	}
}

// A later page of noughts, or a shorter text in noughts, shows nothing of the
// earlier one; and bytes put ahead are not to be got behind.
func TestEarlierBytesAreGone(t *testing.T) {
	for _, empty := range []bool{false, true} {
		f := pinned(t)
		f.Put(3, []byte("secret"))
		if empty {
			f.Zero()
			if e := f.Pin(); e != api.ErrNotPinned {
				t.Error("Pin of one that is empty", e)
			}
		}
		if e := f.Load(0, make([]byte, 32)); e != api.OK {
			t.Fatal(e)
		}
		if _, e := f.Get(0, 32); e != api.ErrNotPinned {
			t.Error("earlier pins are left", e)
		}
		if e := f.Pin(); e != api.OK || f.Pins != 1 {
			t.Error("Pin", e, f.Pins)
		}
		if b, e := f.Get(0, 32); string(b) != noughts(32) || e != api.OK {
			t.Errorf("Get: %q, %d", b, e)
		}
	}
}

// R4

// spoil writes into a list and all of its room, and puts more behind it.
func spoil(b []byte) {
	whole := b[:cap(b)]
	for i := range whole {
		whole[i] ^= 0x55
	}
	b = append(b, "more"...)
	for i := range b {
		b[i] = '!'
	}
}

// roomy is a text in a list with spare room, which holds the byte r.
func roomy(s string, room int) []byte {
	whole := []byte(s + strings.Repeat("r", room))
	return whole[:len(s):len(whole)]
}

func TestWhatIsHandedInIsNotKeptOrChanged(t *testing.T) {
	for _, room := range []int{0, 1, 40} {
		f := &frame.Frame{}
		b := roomy(letters, room)
		if e := f.Load(4, b); e != api.OK {
			t.Fatal(e)
		}
		f.Pin()
		for off := range 33 {
			c := roomy(strings.Repeat("x", 32-off), room)
			if e := f.Put(off, c); e != api.OK {
				t.Fatal(off, e)
			}
			if s := string(c[:cap(c)]); !strings.HasPrefix(s, strings.Repeat("x", 32-off)+strings.Repeat("r", room)) {
				t.Errorf("Put changed what was handed in: %q", s)
			}
			ahead := *f
			if spoil(c); *f != ahead {
				t.Errorf("Put(%d, ..) kept what was handed in", off)
			}
			f.Put(off, []byte(letters[off:]))
		}
		if s := string(b[:cap(b)]); !strings.HasPrefix(s, letters+strings.Repeat("r", room)) {
			t.Errorf("Load, or a call behind it, changed what was handed in: %q", s)
		}
		ahead := *f
		if spoil(b); *f != ahead {
			t.Error("Load kept what was handed in")
		}
		hold(t, "behind all", f, frame.Flags{Used: true, Dirty: true, Ref: true, Pins: 1}, 4, letters)
	}
}

func TestWhatIsHandedInAndRefused(t *testing.T) {
	f := pinned(t)
	was := *f
	long := roomy(letters+"x", 9)
	if f.Load(5, long) != api.ErrForm || f.Put(0, long) != api.ErrRange || string(long[:33]) != letters+"x" {
		t.Errorf("%q", long)
	}
	if spoil(long); *f != was {
		t.Error("kept")
	}
}

func TestWhatIsToldIsNew(t *testing.T) {
	f := pinned(t)
	f.Ref = true
	was := *f
	one, two := f.Bytes(), f.Bytes()
	if spoil(one); string(two) != letters || *f != was {
		t.Errorf("Bytes: what was told changed %q, or the frame %+v", two, *f)
	}
	for off := range 33 {
		for n := range 33 - off {
			one, _ := f.Get(off, n)
			two, _ := f.Get(off, n)
			if spoil(one); string(two) != letters[off:off+n] || *f != was {
				t.Fatalf("Get(%d, %d): what was told changed %q, or the frame %+v", off, n, two, *f)
			}
			if spoil(two); string(f.Bytes()) != letters {
				t.Fatalf("Get(%d, %d): more behind what was told changed the frame", off, n)
			}
		}
	}
}

// What was told is not changed by what is done later.
func TestWhatWasToldStays(t *testing.T) {
	f := pinned(t)
	all := f.Bytes()
	some, _ := f.Get(3, 20)
	f.Put(0, []byte(strings.Repeat("z", 32)))
	f.Load(5, make([]byte, 32))
	f.Zero()
	if string(all) != letters || string(some) != letters[3:23] {
		t.Errorf("%q, %q", all, some)
	}
}

// R5

// act does a call that x chooses, and is what it told.
func act(f *frame.Frame, x [4]byte) string {
	off, n := int(x[1])%40-4, int(x[2])%40
	b, e := []byte(nil), api.OK
	switch x[0] % 8 {
	case 0, 1:
		e = f.Pin()
	case 2:
		e = f.Unpin()
	case 3:
		b, e = f.Get(off, n-2)
	case 4:
		e = f.Put(off, []byte(strings.Repeat(string(x[3:]), n)))
	case 5:
		e = f.Load(off, []byte(strings.Repeat(string(x[3:]), 31+n%3)))
	case 6:
		b = f.Bytes()
	case 7:
		if x[1]%8 == 0 {
			f.Zero()
		}
	}
	return e.Error() + string(b)
}

func TestTheSameCallsTellTheSame(t *testing.T) {
	rnd := rand.New(rand.NewSource(4))
	for range 100 {
		var one, two, other frame.Frame
		for range 200 {
			x, y := [4]byte([]byte(drawn(rnd, 4))), [4]byte([]byte(drawn(rnd, 4)))
			told := act(&one, x)
			act(&other, y)
			if again := act(&two, x); again != told || one != two {
				t.Fatalf("%v: told %q, then %q; %+v, %+v", x, told, again, one, two)
			}
		}
	}
}

// A copy of a frame, and its neighbours, hang on nothing of it.
func TestOneFrameAlone(t *testing.T) {
	rnd := rand.New(rand.NewSource(5))
	var row [3]frame.Frame
	for i := range row {
		row[i] = *made(t, frame.Flags{Used: true, Pins: 2}, i, drawn(rnd, 32))
	}
	first, last := row[0], row[2]
	for range 2000 {
		was := row[1]
		ahead := string(was.Bytes())
		act(&row[1], [4]byte([]byte(drawn(rnd, 4))))
		if string(was.Bytes()) != ahead {
			t.Fatal("a copy is changed")
		}
		if row[0] != first || row[2] != last {
			t.Fatal("a neighbour is changed")
		}
	}
}

// R1

// Of pins that the chapter does not allow nothing is promised but that no call
// panics.
func TestPinsThatAreNotAllowed(t *testing.T) {
	for _, pins := range []int{math.MinInt, -1, 101, math.MaxInt} {
		for _, used := range []bool{false, true} {
			f := made(t, frame.Flags{Used: used, Pins: pins}, 4, letters)
			f.Pin()
			f.Unpin()
			f.Free()
			f.Get(0, 1)
			f.Put(0, []byte("x"))
			if e := f.Load(5, []byte(letters)); e != api.OK {
				t.Error(e)
			}
			hold(t, "behind Load", f, frame.Flags{Used: true}, 5, letters)
		}
	}
}

// model is a frame as the chapter tells it, with a text for its bytes.
type model struct {
	flags frame.Flags
	page  int
	s     string
}

func (m *model) load(page int, s string) api.Errno {
	if len(s) != 32 {
		return api.ErrForm
	}
	*m = model{frame.Flags{Used: true}, page, s}
	return api.OK
}

func (m *model) get(off, n int) (string, api.Errno) {
	switch {
	case m.flags.Pins == 0:
		return "", api.ErrNotPinned
	case !isThere(off, n):
		return "", api.ErrRange
	}
	m.flags.Ref = true
	return m.s[off : off+n], api.OK
}

func (m *model) put(off int, s string) api.Errno {
	if _, e := m.get(off, len(s)); e != api.OK {
		return e
	}
	m.s = m.s[:off] + s + m.s[off+len(s):]
	m.flags.Dirty = true
	return api.OK
}

// step does one call of both, and says whether they told the same.
func (m *model) step(f *frame.Frame, kind byte, off, n int, s string) bool {
	var want, e api.Errno
	switch kind % 6 {
	case 0:
		m.flags, want = wantPin(m.flags)
		e = f.Pin()
	case 1:
		m.flags, want = wantUnpin(m.flags)
		e = f.Unpin()
	case 2:
		piece, wanted := m.get(off, n)
		b, told := f.Get(off, n)
		return string(b) == piece && told == wanted
	case 3:
		want, e = m.put(off, s), f.Put(off, []byte(s))
	case 4:
		want, e = m.load(off, s), f.Load(off, []byte(s))
	case 5:
		*m = model{s: noughts(32)}
		f.Zero()
	}
	return e == want
}

// FuzzFrame holds rows of calls against the model, behind each call.
func FuzzFrame(f *testing.F) {
	f.Add("\x04\x00\x03\x02\x01\x02", 0, 1, letters, "\x07")
	f.Add("\x04\x00\x00\x00\x01\x01\x01\x01", 31, 1, noughts(32), "xy")
	f.Add("\x05\x00\x01\x02\x03\x04", math.MaxInt, math.MaxInt, noughts(33), "")
	f.Add("\x04\x00\x03\x03\x05\x04\x02\x03", math.MinInt, -1, letters, letters)
	f.Add("\x04"+strings.Repeat("\x00", 103)+"\x03\x02\x01", 16, 16, letters, letters[16:])
	f.Fuzz(func(t *testing.T, kinds string, off, n int, page, s string) {
		g, m := &frame.Frame{}, &model{s: noughts(32)}
		for i := range len(kinds) {
			put := s
			if kinds[i]%6 == 4 {
				put = page
			}
			if !m.step(g, kinds[i], off, n, put) {
				t.Fatalf("the call %d of %v told something else", i, []byte(kinds))
			}
			if g.Flags != m.flags || g.Page != m.page || string(g.Bytes()) != m.s || g.Free() != (m.flags.Pins == 0) {
				t.Fatalf("behind the call %d of %v: %+v, page %d, %q; want %+v", i, []byte(kinds), g.Flags, g.Page, g.Bytes(), *m)
			}
		}
	})
}
