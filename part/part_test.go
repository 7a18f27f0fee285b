package part_test

import (
	"fmt"
	"math"
	"math/rand"
	"slices"
	"strings"
	"testing"

	"allotment/api"
	"allotment/clock"
	"allotment/frame"
	"allotment/part"
)

// noughts are n bytes 0.
func noughts(n int) string { return strings.Repeat("\x00", n) }

// text is 32 bytes that are of that page alone.
func text(page int) string { return fmt.Sprintf("%032d", page) }

// pageNumbers are numbers that a page may have: all that an int has.
func pageNumbers() []int {
	return []int{0, 1, 2, 63, 64, 255, 256, 65536, 1<<31 - 1, 1 << 31, 1 << 32, 1<<32 + 1, 1 << 62, math.MaxInt - 1, math.MaxInt,
		-1, -2, -64, -1 << 31, -1<<31 - 1, -1 << 32, -1 << 62, math.MinInt, math.MinInt + 1}
}

// outside are numbers that no frame of n has: just beside those that are
// there, and far away, such too as one has if some bits are not looked at.
func outside(n int) []int {
	return []int{-1, -2, -n, -n - 1, n, n + 1, 2 * n, 64, 65, 255, 256, 1 << 31, 1 << 32, 1<<32 + 1, 1 << 62, math.MaxInt - 1, math.MaxInt,
		-64, -256, -1 << 31, -1 << 32, -1 << 62, math.MinInt, math.MinInt + 1}
}

// made is a partition of n frames.
func made(t *testing.T, n int) *part.Part {
	t.Helper()
	p, e := part.New(n)
	if p == nil || e != api.OK {
		t.Fatalf("New(%d): %v, %d", n, p, e)
	}
	return p
}

// want holds an error against what it should be.
func want(t *testing.T, what string, e, errno api.Errno) {
	t.Helper()
	if e != errno {
		t.Errorf("%s: %d, want %d", what, e, errno)
	}
}

// filled is a partition of n frames; of the first of them each has a page.
func filled(t *testing.T, n int, pages ...int) *part.Part {
	t.Helper()
	p := made(t, n)
	for i, page := range pages {
		want(t, fmt.Sprintf("Load(%d, %d, ..)", i, page), p.Load(i, page, []byte(text(page))), api.OK)
	}
	return p
}

// rising are n pages, from a first one on.
func rising(first, n int) []int {
	l := make([]int, n)
	for i := range l {
		l[i] = first + i
	}
	return l
}

// state is all that is to be seen of a partition by its frames.
type state struct {
	hand   int
	frames []frame.Frame
}

func seen(p *part.Part) state {
	s := state{hand: p.Hand()}
	for i := range p.Len() {
		s.frames = append(s.frames, p.At(i))
	}
	return s
}

func (s state) same(o state) bool { return s.hand == o.hand && slices.Equal(s.frames, o.frames) }

// wantSame holds a partition against what it was.
func wantSame(t *testing.T, what string, p *part.Part, was state) {
	t.Helper()
	if now := seen(p); !now.same(was) {
		t.Errorf("%s: it is\n%+v, was\n%+v", what, now, was)
	}
}

// wantBut does so, and one frame is another one than it was.
func wantBut(t *testing.T, what string, p *part.Part, was state, i int, now frame.Frame) {
	t.Helper()
	was.frames = slices.Clone(was.frames)
	was.frames[i] = now
	wantSame(t, what, p, was)
}

// loaded is a frame that a page is laid into, else as Load leaves it.
func loaded(page int, s string) frame.Frame {
	var f frame.Frame
	f.Load(page, []byte(s))
	return f
}

// The model

// row is a frame as the chapter tells it, with a text for its bytes.
type row struct {
	flags frame.Flags
	page  int
	s     string
}

var emptyRow = row{s: noughts(32)}

// of is the frame that it tells.
func (r row) of() frame.Frame {
	f := loaded(r.page, r.s)
	f.Flags = r.flags
	return f
}

// model is a partition as the chapter tells it.
type model struct {
	hand   int
	frames []row
}

func newModel(n int) *model { return &model{frames: slices.Repeat([]row{emptyRow}, n)} }

// where is the number of the frame in which a page is; -1, if it is not there.
func (m *model) where(page int) int {
	return slices.IndexFunc(m.frames, func(r row) bool { return r.flags.Used && r.page == page })
}

// call is a call, by its name, and what is handed to it.
type call struct {
	name            string
	i, page, off, n int
	s               string
}

// told is what a call tells.
type told struct {
	i     int
	is    bool
	b     string
	errno api.Errno
}

// do does the call.
func (c call) do(p *part.Part) (x told) {
	var b []byte
	switch c.name {
	case "victim":
		x.i, x.is = p.Victim()
	case "load":
		x.errno = p.Load(c.i, c.page, []byte(c.s))
	case "release":
		x.errno = p.Release(c.i)
	case "clean":
		x.errno = p.Clean(c.i)
	case "pin":
		x.errno = p.Pin(c.page)
	case "unpin":
		x.errno = p.Unpin(c.page)
	case "get":
		b, x.errno = p.Get(c.page, c.off, c.n)
		x.b = string(b)
	case "put":
		x.errno = p.Put(c.page, c.off, []byte(c.s))
	case "clear":
		p.Clear()
	}
	return x
}

// do is what the call must tell; the model is then as the partition must be.
func (m *model) do(c call) told {
	switch c.name {
	case "victim":
		return m.victim()
	case "load":
		return told{errno: m.load(c.i, c.page, c.s)}
	case "release", "clean":
		return told{errno: m.numbered(c)}
	case "clear":
		*m = *newModel(len(m.frames))
		return told{}
	}
	return m.ofPage(c)
}

func (m *model) victim() told {
	var l []frame.Flags
	for _, r := range m.frames {
		l = append(l, r.flags)
	}
	i, hand, flags, is := clock.Turn(l, m.hand)
	m.hand = hand
	for k := range flags {
		m.frames[k].flags = flags[k]
	}
	return told{i: i, is: is}
}

func (m *model) load(i, page int, s string) api.Errno {
	if i < 0 || i >= len(m.frames) {
		return api.ErrArg
	}
	if at := m.where(page); at >= 0 && at != i {
		return api.ErrArg
	}
	if len(s) != 32 {
		return api.ErrForm
	}
	m.frames[i] = row{frame.Flags{Used: true}, page, s}
	return api.OK
}

func (m *model) numbered(c call) api.Errno {
	if c.i < 0 || c.i >= len(m.frames) {
		return api.ErrArg
	}
	r := &m.frames[c.i]
	switch {
	case c.name == "clean":
		r.flags.Dirty = false
	case r.flags.Pins > 0:
		return api.ErrPinned
	default:
		*r = emptyRow
	}
	return api.OK
}

// ofPage is Pin, Unpin, Get and Put as chapter 12 tells them.
func (m *model) ofPage(c call) told {
	at := m.where(c.page)
	if at < 0 {
		return told{errno: api.ErrNotPinned}
	}
	r := &m.frames[at]
	pinned, n := r.flags.Pins > 0, c.n
	if c.name == "put" {
		n = len(c.s)
	}
	switch {
	case c.name == "pin" && r.flags.Pins == 100:
		return told{errno: api.ErrFull}
	case c.name == "pin":
		r.flags.Pins++
		r.flags.Ref = true
	case !pinned:
		return told{errno: api.ErrNotPinned}
	case c.name == "unpin":
		r.flags.Pins--
	case c.off < 0 || n < 0 || c.off > 32 || n > 32 || c.off+n > 32:
		return told{errno: api.ErrRange}
	case c.name == "get":
		r.flags.Ref = true
		return told{b: r.s[c.off : c.off+n]}
	case c.name == "put":
		r.flags.Ref, r.flags.Dirty = true, true
		r.s = r.s[:c.off] + c.s + r.s[c.off+n:]
	}
	return told{}
}

// compare holds all that a partition tells, without being changed, against the
// model.
func (m *model) compare(t *testing.T, what string, p *part.Part, pages []int) {
	t.Helper()
	if p.Len() != len(m.frames) || p.Hand() != m.hand {
		t.Fatalf("%s: %d frames, the hand at %d; want %d, %d", what, p.Len(), p.Hand(), len(m.frames), m.hand)
	}
	var dirty []int
	empty := true
	for i, r := range m.frames {
		if f := p.At(i); f != r.of() || f.Flags != r.flags || f.Page != r.page || string(f.Bytes()) != r.s {
			t.Fatalf("%s: frame %d: %+v, want %+v", what, i, f, r)
		}
		if r.flags.Dirty {
			dirty = append(dirty, i)
		}
		empty = empty && r == emptyRow
	}
	if l := p.Dirty(); !slices.Equal(l, dirty) {
		t.Fatalf("%s: Dirty: %v, want %v", what, l, dirty)
	}
	if p.Empty() != empty {
		t.Fatalf("%s: Empty: %t, want %t", what, !empty, empty)
	}
	for _, page := range pages {
		at := m.where(page)
		if i, is := p.Find(page); i != max(at, 0) || is != (at >= 0) {
			t.Fatalf("%s: Find(%d): %d, %t, want %d", what, page, i, is, at)
		}
	}
}

// wantApart looks that no page is in two frames, and that one that is not used
// has nothing.
func wantApart(t *testing.T, what string, p *part.Part) {
	t.Helper()
	at := map[int]int{}
	for i := range p.Len() {
		f := p.At(i)
		if !f.Used {
			if f != (frame.Frame{}) {
				t.Fatalf("%s: frame %d is not used, and not empty: %+v", what, i, f)
			}
			continue
		}
		if k, is := at[f.Page]; is {
			t.Fatalf("%s: the page %d is in the frames %d and %d", what, f.Page, k, i)
		}
		at[f.Page] = i
	}
}

// step does a call of both, and holds them against each other.
func step(t *testing.T, what string, p *part.Part, m *model, c call, pages []int) {
	t.Helper()
	y := m.do(c)
	if x := c.do(p); x != y {
		t.Fatalf("%s: %+v: %+v, want %+v", what, c, x, y)
	}
	m.compare(t, fmt.Sprintf("%s: behind %+v", what, c), p, pages)
}

// The example

func TestExample(t *testing.T) {
	p := made(t, 1)
	want(t, "Load", p.Load(0, 5, make([]byte, 32)), api.OK)
	if i, is := p.Victim(); i != 0 || !is {
		t.Errorf("Victim: %d, %t", i, is)
	}
	want(t, "Pin", p.Pin(5), api.OK)
	if i, is := p.Victim(); i != 0 || is {
		t.Errorf("Victim of one that is pinned: %d, %t", i, is)
	}
}

// P14.1

func TestNew(t *testing.T) {
	for _, n := range append(rising(-70, 210), 255, 256, 257, 1<<16+1, 1<<31, 1<<32, 1<<32+1, 1<<62, math.MaxInt, -256, -1<<31, -1<<32+1, -1<<62, math.MinInt, math.MinInt+1) {
		p, e := part.New(n)
		if n < 1 || n > 64 {
			if p != nil || e != api.ErrArg {
				t.Errorf("New(%d): %v, %d", n, p, e)
			}
			continue
		}
		if p == nil || e != api.OK {
			t.Fatalf("New(%d): %v, %d", n, p, e)
		}
		newModel(n).compare(t, fmt.Sprintf("New(%d)", n), p, pageNumbers())
	}
}

// How many frames there are is not changed by anything.
func TestLenStays(t *testing.T) {
	for _, n := range []int{1, 2, 63, 64} {
		p := filled(t, n, rising(3, n)...)
		p.Load(n, 1000, []byte(text(1000)))
		p.Victim()
		p.Release(0)
		if p.Len() != n {
			t.Errorf("%d frames, of %d", p.Len(), n)
		}
		if p.Clear(); p.Len() != n {
			t.Errorf("behind Clear %d frames, of %d", p.Len(), n)
		}
	}
}

func TestFind(t *testing.T) {
	for _, n := range []int{1, 2, 5, 64} {
		pages := append(pageNumbers(), rising(1000, 64)...)[:n]
		p := filled(t, n, pages...)
		was := seen(p)
		for i, page := range pages {
			if at, is := p.Find(page); at != i || !is {
				t.Errorf("of %d frames: Find(%d): %d, %t, want %d", n, page, at, is, i)
			}
		}
		for _, page := range append(pageNumbers(), 3, 4, 5, 999, 1064, 1<<32+2, -3) {
			if at, is := p.Find(page); !slices.Contains(pages, page) && (at != 0 || is) {
				t.Errorf("of %d frames: Find(%d): %d, %t, and it is not there", n, page, at, is)
			}
		}
		wantSame(t, "behind Find", p, was)
	}
}

// Empty frames have Page 0, and are not of the page 0, at first nor later.
func TestThePage0(t *testing.T) {
	p := made(t, 3)
	absent := func(what string) {
		t.Helper()
		was := seen(p)
		if i, is := p.Find(0); i != 0 || is {
			t.Errorf("%s: Find(0): %d, %t", what, i, is)
		}
		want(t, what+": Pin(0)", p.Pin(0), api.ErrNotPinned)
		want(t, what+": Unpin(0)", p.Unpin(0), api.ErrNotPinned)
		want(t, what+": Put(0, ..)", p.Put(0, 0, []byte("x")), api.ErrNotPinned)
		if b, e := p.Get(0, 0, 1); len(b) != 0 || e != api.ErrNotPinned {
			t.Errorf("%s: Get(0, ..): %q, %d", what, b, e)
		}
		wantSame(t, what, p, was)
	}
	absent("at first")
	want(t, "Load(0, 7, ..)", p.Load(0, 7, []byte(text(7))), api.OK)
	absent("beside a page 7")
	for i := 2; i > 0; i-- {
		want(t, "Load of the page 0 beside empty frames", p.Load(i, 0, []byte(text(0))), api.OK)
		if at, is := p.Find(0); at != i || !is {
			t.Errorf("Find(0): %d, %t, want %d", at, is, i)
		}
		want(t, "Load into an empty frame that has Page 0", p.Load(3-i, 0, []byte(text(0))), api.ErrArg)
		want(t, "Pin(0)", p.Pin(0), api.OK)
		if f := p.At(i); f.Pins != 1 || !f.Ref {
			t.Errorf("Pin(0) of frame %d: %+v", i, f)
		}
		want(t, "Put(0, ..)", p.Put(0, 31, []byte("x")), api.OK)
		if b, e := p.Get(0, 30, 2); string(b) != "0x" || e != api.OK {
			t.Errorf("Get(0, ..): %q, %d", b, e)
		}
		want(t, "Unpin(0)", p.Unpin(0), api.OK)
		want(t, "Release", p.Release(i), api.OK)
		absent("behind Release")
	}
	want(t, "Load(0, 0, ..)", p.Load(0, 0, []byte(text(0))), api.OK)
	p.Clear()
	absent("behind Clear")
}

// A page of number 0 that is all noughts is there; its frame is not empty.
func TestThePage0OfNoughts(t *testing.T) {
	p := made(t, 2)
	want(t, "Load", p.Load(1, 0, make([]byte, 32)), api.OK)
	if i, is := p.Find(0); i != 1 || !is || p.Empty() || p.At(1) == (frame.Frame{}) || !p.At(1).Used {
		t.Errorf("Find(0): %d, %t; Empty: %t; %+v", i, is, p.Empty(), p.At(1))
	}
}

func TestAt(t *testing.T) {
	for _, n := range []int{1, 2, 64} {
		p := filled(t, n, rising(100, n)...)
		p.Pin(100)
		p.Put(100, 31, []byte("x"))
		was := seen(p)
		for i := range n {
			f := loaded(100+i, text(100+i))
			if i == 0 {
				f.Pin()
				f.Put(31, []byte("x"))
			}
			if at := p.At(i); at != f {
				t.Errorf("of %d frames: At(%d): %+v, want %+v", n, i, at, f)
			}
		}
		for _, i := range outside(n) {
			if i < 0 || i >= n {
				if f := p.At(i); f != (frame.Frame{}) {
					t.Errorf("of %d frames: At(%d): %+v", n, i, f)
				}
			}
		}
		wantSame(t, "behind At", p, was)
	}
}

// A frame that was told is changed, and the partition is not; nor is the frame
// by what is done to the partition.
func TestAFrameThatIsToldIsACopy(t *testing.T) {
	p := filled(t, 2, 7, 8)
	p.Pin(7)
	was := seen(p)
	for i := range 4 {
		f := p.At(i)
		f.Pin()
		f.Put(0, []byte("spoilt"))
		f.Page, f.Dirty, f.Ref, f.Pins = 99, true, true, 50
		wantSame(t, "behind a change of what was told", p, was)
		f.Load(55, []byte(text(55)))
		wantSame(t, "behind Load of what was told", p, was)
		f.Zero()
		wantSame(t, "behind Zero of what was told", p, was)
	}
	f := p.At(0)
	p.Put(7, 0, []byte("other"))
	p.Pin(7)
	if f != was.frames[0] {
		t.Errorf("what was told is changed: %+v", f)
	}
	if p.Clear(); f != was.frames[0] {
		t.Errorf("what was told is changed by Clear: %+v", f)
	}
}

// P14.2

// flags are the flags of a partition's frames.
func flags(p *part.Part) []frame.Flags {
	var l []frame.Flags
	for i := range p.Len() {
		f := p.At(i)
		l = append(l, f.Flags)
	}
	return l
}

// wantVictim holds a Victim against what Turn tells, and is what it told.
func wantVictim(t *testing.T, p *part.Part) (int, bool) {
	t.Helper()
	was := seen(p)
	victim, hand, now, there := clock.Turn(flags(p), p.Hand())
	i, is := p.Victim()
	if i != victim || is != there {
		t.Fatalf("of %+v: Victim: %d, %t, want %d, %t", was, i, is, victim, there)
	}
	was.hand = hand
	for k := range now {
		was.frames[k].Flags = now[k]
	}
	wantSame(t, "behind Victim", p, was)
	return i, is
}

// Of empty frames each goes, one behind the other, and the first one again.
func TestVictimsOfEmptyFrames(t *testing.T) {
	for _, n := range []int{1, 2, 3, 64} {
		p := made(t, n)
		for k := range 3 * n {
			if i, is := wantVictim(t, p); i != k%n || !is || p.Hand() != (k+1)%n {
				t.Fatalf("of %d frames: the victim %d, %t, the hand at %d, want %d", n, i, is, p.Hand(), k%n)
			}
		}
		if !p.Empty() {
			t.Error("not empty any more")
		}
	}
}

// One that is referred to is passed by once, one that is pinned again and
// again.
func TestVictimsOfKnownFrames(t *testing.T) {
	p := filled(t, 3, 10, 11, 12)
	p.Pin(10)
	p.Pin(11)
	p.Put(11, 0, []byte("x"))
	p.Unpin(11)
	for k, x := range []struct {
		refer        []int
		victim, hand int
	}{
		{nil, 2, 0}, {nil, 1, 2}, {nil, 2, 0}, {nil, 1, 2}, {[]int{11, 12}, 2, 0}, {[]int{11}, 2, 0}, {[]int{12}, 1, 2},
	} {
		for _, page := range x.refer {
			p.Pin(page)
			p.Unpin(page)
		}
		if i, is := wantVictim(t, p); i != x.victim || !is || p.Hand() != x.hand {
			t.Fatalf("turn %d: the victim %d, %t, the hand at %d; want %+v", k, i, is, p.Hand(), x)
		}
	}
	if l := flags(p); !slices.Equal(l, []frame.Flags{{Used: true, Ref: true, Pins: 1}, {Used: true, Dirty: true}, {Used: true, Ref: true}}) {
		t.Errorf("behind all: %+v", l)
	}
	if f := p.At(1); f.Page != 11 || string(f.Bytes()) != "x"+text(11)[1:] {
		t.Errorf("the page 11 is %+v", f)
	}
}

// Where all are used and pinned there is none, and nothing is changed, wherever
// the hand is.
func TestNoVictim(t *testing.T) {
	for _, n := range []int{1, 2, 3, 64} {
		for hand := range n {
			p := filled(t, n, rising(5, n)...)
			for range hand {
				p.Victim()
			}
			for i := range n {
				p.Pin(5 + i)
			}
			was := seen(p)
			for range 3 {
				if i, is := wantVictim(t, p); i != 0 || is {
					t.Fatalf("of %d frames, the hand at %d: Victim: %d, %t", n, hand, i, is)
				}
				wantSame(t, "behind no victim", p, was)
			}
			free := (hand + n - 1) % n
			p.Unpin(5 + free)
			if i, is := wantVictim(t, p); i != free || !is || p.At(free).Ref {
				t.Fatalf("of %d frames: the victim %d, %t, want %d", n, i, is, free)
			}
		}
	}
}

// A victim stays as it is, but for its flags: what is to be done to it is not
// Victim's.
func TestAVictimStays(t *testing.T) {
	p := filled(t, 1, 5)
	p.Pin(5)
	p.Put(5, 0, []byte("xyz"))
	p.Unpin(5)
	was := p.At(0)
	was.Ref = false
	for range 3 {
		if i, is := wantVictim(t, p); i != 0 || !is || p.At(0) != was {
			t.Fatalf("%d, %t, %+v", i, is, p.At(0))
		}
	}
	if i, is := p.Find(5); i != 0 || !is {
		t.Errorf("Find(5): %d, %t", i, is)
	}
}

// P14.3

// busy is a partition of 3 frames: the page 7 pinned twice and dirty, the page
// -8 dirty, not pinned and referred to, and an empty frame between them. The
// hand is at 2.
func busy(t *testing.T) *part.Part {
	t.Helper()
	p := made(t, 3)
	p.Victim()
	p.Victim()
	for k, page := range []int{7, -8} {
		want(t, "Load", p.Load(2*k, page, []byte(text(page))), api.OK)
		want(t, "Pin", p.Pin(page), api.OK)
		want(t, "Put", p.Put(page, 3, []byte("put")), api.OK)
	}
	want(t, "Pin", p.Pin(7), api.OK)
	want(t, "Unpin", p.Unpin(-8), api.OK)
	return p
}

// Into any frame: an empty one, one that has another page, one that is pinned;
// nothing else is changed.
func TestLoad(t *testing.T) {
	for _, page := range pageNumbers() {
		for i := range 3 {
			p := busy(t)
			was := seen(p)
			want(t, "Load", p.Load(i, page, []byte(text(page))), api.OK)
			wantBut(t, fmt.Sprintf("behind Load(%d, %d, ..)", i, page), p, was, i, loaded(page, text(page)))
			if at, is := p.Find(page); at != i || !is {
				t.Errorf("Find(%d): %d, %t, want %d", page, at, is, i)
			}
			if old := was.frames[i]; old.Used {
				if at, is := p.Find(old.Page); at != 0 || is {
					t.Errorf("the earlier page %d is in %d still", old.Page, at)
				}
			}
			want(t, "Unpin of what was loaded", p.Unpin(page), api.ErrNotPinned)
		}
	}
}

// Into the frame in which it is already a page is laid again: new bytes, and
// neither dirty nor referred to nor pinned.
func TestLoadWhereItIs(t *testing.T) {
	for k, page := range []int{7, -8} {
		p, i := busy(t), 2*k
		was := seen(p)
		want(t, "Load", p.Load(i, page, []byte(text(1234))), api.OK)
		wantBut(t, "behind Load where it is", p, was, i, loaded(page, text(1234)))
		want(t, "Load of the same bytes", p.Load(i, page, []byte(text(1234))), api.OK)
		wantBut(t, "behind Load of the same", p, was, i, loaded(page, text(1234)))
	}
}

// What is wrong with the frame, or the page, is told ahead of what is wrong
// with the bytes; and nothing is changed.
func TestLoadThatIsRefused(t *testing.T) {
	p := busy(t)
	was := seen(p)
	lengths := []int{0, 1, 15, 16, 31, 32, 33, 63, 64, 256 + 32, 1<<16 + 32}
	refused := func(i, page, n int, errno api.Errno) {
		t.Helper()
		what := fmt.Sprintf("Load(%d, %d, %d bytes)", i, page, n)
		want(t, what, p.Load(i, page, []byte(strings.Repeat("x", n))), errno)
		wantSame(t, what, p, was)
	}
	for _, n := range lengths {
		for _, i := range append(outside(3), 3, 4) {
			for _, page := range []int{7, -8, 0, 9} {
				refused(i, page, n, api.ErrArg)
			}
		}
		for i, pages := range [][]int{{-8}, {7, -8}, {7}} {
			for _, page := range pages {
				refused(i, page, n, api.ErrArg)
			}
		}
		if n == 32 {
			continue
		}
		for i, pages := range [][]int{{7, 0, 9}, {0, 9}, {-8, 0, 9}} {
			for _, page := range pages {
				refused(i, page, n, api.ErrForm)
			}
		}
	}
	want(t, "Load of nil", p.Load(1, 9, nil), api.ErrForm)
	want(t, "Load of nil where no frame is", p.Load(3, 9, nil), api.ErrArg)
	room := []byte(text(1) + text(2))
	want(t, "Load of 31 bytes with room behind them", p.Load(1, 9, room[:31]), api.ErrForm)
	wantSame(t, "behind all", p, was)
}

// The edges of a partition of one frame, and of 64.
func TestFrameNumbers(t *testing.T) {
	for _, n := range []int{1, 64} {
		p := made(t, n)
		for _, i := range outside(n) {
			if i >= 0 && i < n {
				continue
			}
			want(t, fmt.Sprintf("of %d frames: Load(%d, ..)", n, i), p.Load(i, 5, []byte(text(5))), api.ErrArg)
			want(t, fmt.Sprintf("of %d frames: Release(%d)", n, i), p.Release(i), api.ErrArg)
			want(t, fmt.Sprintf("of %d frames: Clean(%d)", n, i), p.Clean(i), api.ErrArg)
		}
		newModel(n).compare(t, "behind calls that were refused", p, pageNumbers())
		for _, i := range []int{0, n - 1} {
			want(t, fmt.Sprintf("of %d frames: Load(%d, ..)", n, i), p.Load(i, 5, []byte(text(5))), api.OK)
			want(t, "Clean", p.Clean(i), api.OK)
			if at, is := p.Find(5); at != i || !is || p.At(i) != loaded(5, text(5)) {
				t.Errorf("of %d frames: Find(5): %d, %t, %+v", n, at, is, p.At(i))
			}
			want(t, fmt.Sprintf("of %d frames: Release(%d)", n, i), p.Release(i), api.OK)
			newModel(n).compare(t, "behind Release", p, pageNumbers())
		}
	}
}

func TestRelease(t *testing.T) {
	p := busy(t)
	was := seen(p)
	for range 2 {
		want(t, "Release of one that is pinned twice", p.Release(0), api.ErrPinned)
		wantSame(t, "behind Release that was refused", p, was)
	}
	for _, i := range append(outside(3), 3) {
		want(t, fmt.Sprintf("Release(%d)", i), p.Release(i), api.ErrArg)
	}
	wantSame(t, "behind Release of none", p, was)
	want(t, "Release of an empty one", p.Release(1), api.OK)
	wantSame(t, "behind Release of an empty one", p, was)
	want(t, "Release of a dirty one", p.Release(2), api.OK)
	wantBut(t, "behind Release of a dirty one", p, was, 2, frame.Frame{})
	if i, is := p.Find(-8); i != 0 || is {
		t.Errorf("Find(-8): %d, %t", i, is)
	}
	want(t, "Unpin", p.Unpin(7), api.OK)
	want(t, "Release of one that is pinned once", p.Release(0), api.ErrPinned)
	want(t, "Unpin", p.Unpin(7), api.OK)
	want(t, "Release of one that is not pinned any more", p.Release(0), api.OK)
	if !p.Empty() || p.Hand() != was.hand {
		t.Errorf("%+v", seen(p))
	}
}

// Where all are pinned, a frame that is not there is told as such.
func TestReleaseTellsNoFrameFirst(t *testing.T) {
	for _, n := range []int{1, 64} {
		p := filled(t, n, rising(0, n)...)
		for page := range n {
			p.Pin(page)
		}
		was := seen(p)
		for _, i := range []int{-1, n, n + 1, math.MinInt, math.MaxInt} {
			want(t, fmt.Sprintf("Release(%d)", i), p.Release(i), api.ErrArg)
		}
		for i := range n {
			want(t, fmt.Sprintf("Release(%d)", i), p.Release(i), api.ErrPinned)
		}
		wantSame(t, "behind all", p, was)
	}
}

func TestClean(t *testing.T) {
	p := busy(t)
	was := seen(p)
	for _, i := range append(outside(3), 3) {
		want(t, fmt.Sprintf("Clean(%d)", i), p.Clean(i), api.ErrArg)
	}
	want(t, "Clean of an empty one", p.Clean(1), api.OK)
	wantSame(t, "behind Clean of none, and of an empty one", p, was)
	for _, i := range []int{2, 0} {
		ahead := seen(p)
		clean := ahead.frames[i]
		clean.Dirty = false
		for range 2 {
			want(t, fmt.Sprintf("Clean(%d)", i), p.Clean(i), api.OK)
			wantBut(t, fmt.Sprintf("behind Clean(%d)", i), p, ahead, i, clean)
		}
	}
	if l := p.Dirty(); len(l) != 0 {
		t.Errorf("Dirty: %v", l)
	}
	want(t, "Put", p.Put(7, 0, nil), api.OK)
	if l := p.Dirty(); !slices.Equal(l, []int{0}) {
		t.Errorf("Dirty: %v", l)
	}
}

// P14.4

// Of a page that is not there each tells ErrNotPinned, whatever else is wrong.
func TestPagesThatAreNotThere(t *testing.T) {
	p := busy(t)
	was := seen(p)
	for _, page := range append(pageNumbers(), 3, 8, -7, 1<<32+7) {
		want(t, "Pin", p.Pin(page), api.ErrNotPinned)
		want(t, "Unpin", p.Unpin(page), api.ErrNotPinned)
		for _, off := range []int{0, 31, 32, 33, -1, math.MinInt, math.MaxInt} {
			for _, n := range []int{0, 1, 32, 33} {
				want(t, "Put", p.Put(page, off, make([]byte, n)), api.ErrNotPinned)
				if b, e := p.Get(page, off, n); len(b) != 0 || e != api.ErrNotPinned {
					t.Errorf("Get(%d, %d, %d): %q, %d", page, off, n, b, e)
				}
			}
		}
	}
	wantSame(t, "behind all", p, was)
}

// Up to 100 pins and down again, and a step beyond both ends; of one page, and
// nothing of the others is changed.
func TestPinsFrom0To100(t *testing.T) {
	p := filled(t, 3, 4, 5, 6)
	was := seen(p)
	f := was.frames[1]
	f.Ref = true
	for pins := 1; pins <= 100; pins++ {
		want(t, "Pin", p.Pin(5), api.OK)
		f.Pins = pins
		wantBut(t, "behind Pin", p, was, 1, f)
	}
	for range 2 {
		want(t, "Pin of one that is pinned 100 times", p.Pin(5), api.ErrFull)
		wantBut(t, "behind it", p, was, 1, f)
	}
	for pins := 99; pins >= 0; pins-- {
		want(t, "Unpin", p.Unpin(5), api.OK)
		f.Pins = pins
		wantBut(t, "behind Unpin", p, was, 1, f)
	}
	for range 2 {
		want(t, "Unpin of one that is not pinned", p.Unpin(5), api.ErrNotPinned)
		wantBut(t, "behind it", p, was, 1, f)
	}
}

// places are pairs of a place and a number: about a page's both ends, and such
// as come to a right one if a sum runs over.
func places() [][2]int {
	var l [][2]int
	near := append(rising(-3, 7), 15, 16, 17, 29, 30, 31, 32, 33, 34)
	far := []int{math.MinInt, math.MinInt + 1, -1 << 32, -32, 256, 1 << 32, 1<<32 + 1, 1 << 62, math.MaxInt - 31, math.MaxInt}
	all := append(near, far...)
	for _, off := range all {
		for _, n := range all {
			l = append(l, [2]int{off, n})
		}
	}
	return l
}

// Get and Put tell what chapter 12's tell of the frame in which the page is.
func TestGetAndPutAreTheFrames(t *testing.T) {
	for _, page := range []int{7, -8} {
		for _, x := range places() {
			off, n := x[0], x[1]
			p := busy(t)
			was := seen(p)
			i, _ := p.Find(page)
			f := p.At(i)
			b, e := p.Get(page, off, n)
			c, errno := f.Get(off, n)
			if string(b) != string(c) || e != errno || e != api.OK && len(b) != 0 {
				t.Errorf("Get(%d, %d, %d): %q, %d, want %q, %d", page, off, n, b, e, c, errno)
			}
			wantBut(t, "behind Get", p, was, i, f)
			if n < 0 || n > 300 {
				continue
			}
			was = seen(p)
			put := []byte(strings.Repeat("!", n))
			want(t, fmt.Sprintf("Put(%d, %d, %d bytes)", page, off, n), p.Put(page, off, put), f.Put(off, put))
			wantBut(t, "behind Put", p, was, i, f)
		}
	}
}

// That a page is not pinned is told ahead of a place that is not there.
func TestErrorsInTheirRow(t *testing.T) {
	p := busy(t)
	was := seen(p)
	want(t, "Put where none is, not pinned", p.Put(-8, 32, []byte("x")), api.ErrNotPinned)
	want(t, "Put where none is, pinned", p.Put(7, 32, []byte("x")), api.ErrRange)
	for _, x := range []struct {
		page  int
		errno api.Errno
	}{{-8, api.ErrNotPinned}, {7, api.ErrRange}, {9, api.ErrNotPinned}} {
		if b, e := p.Get(x.page, 31, 2); len(b) != 0 || e != x.errno {
			t.Errorf("Get(%d, ..): %q, %d, want %d", x.page, b, e, x.errno)
		}
	}
	wantSame(t, "behind all", p, was)
}

func TestGetAndPutOfKnownPieces(t *testing.T) {
	p := filled(t, 2, 3, 4)
	p.Pin(4)
	want(t, "Put", p.Put(4, 0, []byte("begin")), api.OK)
	want(t, "Put", p.Put(4, 29, []byte("end")), api.OK)
	want(t, "Put", p.Put(4, 30, []byte("END")), api.ErrRange)
	for _, x := range []struct {
		off, n int
		s      string
		errno  api.Errno
	}{
		{0, 6, "begin0", api.OK}, {28, 4, "0end", api.OK}, {0, 32, "begin" + noughtDigits(24) + "end", api.OK},
		{32, 0, "", api.OK}, {32, 1, "", api.ErrRange}, {0, 33, "", api.ErrRange}, {-1, 2, "", api.ErrRange}, {3, -1, "", api.ErrRange},
	} {
		if b, e := p.Get(4, x.off, x.n); string(b) != x.s || e != x.errno {
			t.Errorf("Get(4, %d, %d): %q, %d, want %q, %d", x.off, x.n, b, e, x.s, x.errno)
		}
	}
	p.Pin(3)
	if b, e := p.Get(3, 0, 32); string(b) != text(3) || e != api.OK {
		t.Errorf("Get(3, ..): %q, %d", b, e)
	}
}

// noughtDigits are n digits 0.
func noughtDigits(n int) string { return strings.Repeat("0", n) }

// The frames' numbers are told, not the pages', and rising, however the pages
// became dirty.
func TestDirty(t *testing.T) {
	for _, n := range []int{1, 2, 7, 64} {
		p := made(t, n)
		if l := p.Dirty(); len(l) != 0 {
			t.Errorf("of empty frames: Dirty: %v", l)
		}
		for i := range n {
			p.Load(i, 1000-i, []byte(text(i)))
			p.Pin(1000 - i)
		}
		if l := p.Dirty(); len(l) != 0 {
			t.Errorf("of pinned frames: Dirty: %v", l)
		}
		var dirty []int
		for _, i := range rand.New(rand.NewSource(1)).Perm(n) {
			want(t, "Put", p.Put(1000-i, i%32, []byte("x")), api.OK)
			dirty = append(dirty, i)
			slices.Sort(dirty)
			was := seen(p)
			if l := p.Dirty(); !slices.Equal(l, dirty) {
				t.Fatalf("of %d frames: Dirty: %v, want %v", n, l, dirty)
			}
			wantSame(t, "behind Dirty", p, was)
		}
		for i := range n {
			if i%2 == 0 {
				p.Clean(i)
			} else {
				p.Unpin(1000 - i)
				p.Release(i)
			}
			if dirty = dirty[1:]; !slices.Equal(p.Dirty(), dirty) {
				t.Fatalf("of %d frames: Dirty: %v, want %v", n, p.Dirty(), dirty)
			}
		}
	}
}

// One frame that is used is enough, whichever it is.
func TestEmpty(t *testing.T) {
	for _, n := range []int{1, 2, 64} {
		p := made(t, n)
		for i := range n {
			if !p.Empty() {
				t.Fatalf("of %d frames: not empty ahead of Load(%d, ..)", n, i)
			}
			want(t, "Load", p.Load(i, 0, make([]byte, 32)), api.OK)
			if p.Empty() {
				t.Fatalf("of %d frames: empty behind Load(%d, ..)", n, i)
			}
			want(t, "Release", p.Release(i), api.OK)
		}
		if p.Victim(); !p.Empty() {
			t.Error("the hand makes it not empty")
		}
	}
}

// Of all that was, pins and the hand too, nothing is left.
func TestClear(t *testing.T) {
	for _, n := range []int{1, 2, 3, 64} {
		p := filled(t, n, rising(-1, n)...)
		for page := -1; page < n-1; page++ {
			p.Pin(page)
			p.Put(page, 0, []byte("x"))
		}
		p.Unpin(-1)
		p.Victim()
		if n > 1 && p.Hand() == 0 {
			t.Fatal("the hand is at 0 ahead of Clear")
		}
		for range 2 {
			p.Clear()
			newModel(n).compare(t, "behind Clear", p, rising(-2, n+3))
		}
		for i := range n {
			if v, is := p.Victim(); v != i || !is {
				t.Errorf("behind Clear: the victim %d, %t, want %d", v, is, i)
			}
			want(t, "Load behind Clear", p.Load(i, -1-i, []byte(text(i))), api.OK)
		}
	}
}

// P14.5

// kinds are all calls of a few pages, of a partition of n frames.
func kinds(n int, pages ...int) []call {
	l := []call{{name: "victim"}, {name: "clear"}}
	for i := -1; i <= n; i++ {
		l = append(l, call{name: "release", i: i}, call{name: "clean", i: i})
		for _, page := range pages {
			l = append(l, call{name: "load", i: i, page: page, s: text(page)}, call{name: "load", i: i, page: page, s: text(page)[1:]})
		}
	}
	for _, page := range pages {
		l = append(l, call{name: "pin", page: page}, call{name: "unpin", page: page}, call{name: "put", page: page, off: 31, s: "x"},
			call{name: "put", page: page, off: 32, s: "x"}, call{name: "get", page: page, off: 30, n: 2}, call{name: "get", page: page, off: -1, n: 2})
	}
	return l
}

// reach goes through all states that calls come to, of at most that many pins,
// and does each call at each of them.
func reach(t *testing.T, n, pins int, pages ...int) {
	calls := kinds(n, pages...)
	rows := [][]call{nil}
	known := map[string]bool{fmt.Sprint(*newModel(n)): true}
	for k := 0; k < len(rows); k++ {
		for _, c := range calls {
			p, m := made(t, n), newModel(n)
			for _, ahead := range rows[k] {
				ahead.do(p)
				m.do(ahead)
			}
			step(t, fmt.Sprint(rows[k]), p, m, c, pages)
			wantApart(t, fmt.Sprint(rows[k], c), p)
			tooMany := slices.ContainsFunc(m.frames, func(r row) bool { return r.flags.Pins > pins })
			if s := fmt.Sprint(*m); !tooMany && !known[s] {
				known[s] = true
				rows = append(rows, append(slices.Clone(rows[k]), c))
			}
		}
	}
	t.Logf("of %d frames: %d states", n, len(rows))
}

func TestAllStatesOfAFewFrames(t *testing.T) {
	reach(t, 1, 3, 0, 5, -1)
	reach(t, 2, 2, 0, 5)
	reach(t, 2, 1, 0, 5, -1)
}

// drawnCall is a call by chance, of a few pages, or now and then of what is not
// there.
func drawnCall(rnd *rand.Rand, n int, pages []int) call {
	names := strings.Fields("victim victim load load load load release clean pin pin pin unpin unpin unpin get get put put put")
	c := call{name: names[rnd.Intn(len(names))], i: rnd.Intn(n), page: pages[rnd.Intn(len(pages))], off: rnd.Intn(33)}
	c.n = rnd.Intn(33 - c.off)
	if rnd.Intn(20) == 0 {
		c.i, c.off, c.n = []int{-1, n, math.MaxInt}[rnd.Intn(3)], rnd.Intn(60)-20, rnd.Intn(60)-20
	}
	if rnd.Intn(300) == 0 {
		c.name = "clear"
	}
	length := max(c.n, 0)
	if c.name == "load" {
		length = 32
		if rnd.Intn(15) == 0 {
			length = rnd.Intn(66)
		}
	}
	b := make([]byte, length)
	rnd.Read(b)
	c.s = string(b)
	return c
}

// drawnPages are pages by chance: somewhat more than there are frames.
func drawnPages(rnd *rand.Rand, n int) []int {
	numbers := pageNumbers()
	rnd.Shuffle(len(numbers), func(i, k int) { numbers[i], numbers[k] = numbers[k], numbers[i] })
	numbers = append(numbers, rising(300, 64)...)
	return numbers[:n+1+rnd.Intn(n+2)%12]
}

func TestCallsByChance(t *testing.T) {
	rnd := rand.New(rand.NewSource(2))
	for _, n := range []int{1, 2, 3, 4, 7, 16, 33, 63, 64} {
		for range 8 {
			p, m, pages := made(t, n), newModel(n), drawnPages(rnd, n)
			for range 300 + 10*n {
				step(t, fmt.Sprintf("of %d frames", n), p, m, drawnCall(rnd, n, pages), pages)
				wantApart(t, "by chance", p)
			}
		}
	}
}

// Whatever is done to other pages, but for a Load into its frame and Clear, what
// a page has stays as it is, save that Victim passes it by.
func TestAPageStaysWhateverIsDoneToOthers(t *testing.T) {
	rnd := rand.New(rand.NewSource(3))
	for range 200 {
		n := 2 + rnd.Intn(8)
		pages := drawnPages(rnd, n)
		p := made(t, n)
		mine, own := pages[0], rnd.Intn(n)
		p.Load(own, mine, []byte(text(mine)))
		p.Pin(mine)
		p.Put(mine, 5, []byte("own"))
		was := p.At(own)
		for range 200 {
			c := drawnCall(rnd, n, pages[1:])
			if c.name == "clear" || c.i == own && (c.name == "load" || c.name == "clean") {
				continue
			}
			if c.do(p); p.At(own) != was {
				t.Fatalf("behind %+v: %+v, was %+v", c, p.At(own), was)
			}
			if i, is := p.Find(mine); i != own || !is {
				t.Fatalf("behind %+v: Find: %d, %t, want %d", c, i, is, own)
			}
		}
	}
}

// A frame that another page is laid into shows nothing of the earlier one.
func TestNothingOfAnEarlierPage(t *testing.T) {
	for _, how := range []string{"load", "release", "clear"} {
		p := filled(t, 2, 7)
		p.Pin(7)
		p.Put(7, 0, []byte("a secret of the page 7 in all 32"))
		switch how {
		case "release":
			p.Unpin(7)
			want(t, "Release", p.Release(0), api.OK)
		case "clear":
			p.Clear()
		}
		want(t, "Load", p.Load(0, 8, make([]byte, 32)), api.OK)
		if p.At(0) != loaded(8, noughts(32)) {
			t.Errorf("%s: %+v", how, p.At(0))
		}
		want(t, how+": Unpin", p.Unpin(8), api.ErrNotPinned)
		want(t, how+": Pin", p.Pin(8), api.OK)
		if b, e := p.Get(8, 0, 32); string(b) != noughts(32) || e != api.OK {
			t.Errorf("%s: Get: %q, %d", how, b, e)
		}
		if len(p.Dirty()) != 0 {
			t.Errorf("%s: Dirty: %v", how, p.Dirty())
		}
		want(t, how+": Pin of the earlier page", p.Pin(7), api.ErrNotPinned)
	}
}

// Two partitions have nothing in common.
func TestTwoPartitions(t *testing.T) {
	rnd := rand.New(rand.NewSource(4))
	one, two := filled(t, 4, 1, 2, 3), filled(t, 4, 1, 2, 3)
	one.Pin(2)
	two.Pin(2)
	was := seen(two)
	for range 2000 {
		c := drawnCall(rnd, 4, []int{1, 2, 3, 4, 5})
		c.do(one)
		wantSame(t, "what was done to another partition", two, was)
		if t.Failed() {
			return
		}
	}
}

// R4

// roomy is a text in a list with spare room, which holds the byte r.
func roomy(s string, room int) []byte {
	whole := []byte(s + strings.Repeat("r", room))
	return whole[:len(s):len(whole)]
}

// spoil writes into a list and all of its room, and puts more behind it.
func spoil(b []byte) {
	whole := b[:cap(b)]
	for i := range whole {
		whole[i] ^= 0x55
	}
	b = append(b, "more"...)
	for i := range b {
		b[i] = '!'
	}
}

func TestWhatIsHandedInIsNotKeptOrChanged(t *testing.T) {
	for _, room := range []int{0, 1, 50} {
		p := made(t, 2)
		rooms := strings.Repeat("r", room)
		for _, x := range []struct {
			what string
			s    string
			do   func(b []byte) api.Errno
		}{
			{"Load", text(4), func(b []byte) api.Errno { return p.Load(1, 4, b) }},
			{"Load again", text(5), func(b []byte) api.Errno { return p.Load(1, 4, b) }},
			{"Pin", "", func([]byte) api.Errno { return p.Pin(4) }},
			{"Put", "put", func(b []byte) api.Errno { return p.Put(4, 9, b) }},
			{"Put of all", text(6), func(b []byte) api.Errno { return p.Put(4, 0, b) }},
			{"Put of none", "", func(b []byte) api.Errno { return p.Put(4, 32, b) }},
		} {
			b := roomy(x.s, room)
			want(t, x.what, x.do(b), api.OK)
			p.Get(4, 0, 32)
			p.At(1)
			if s := string(b[:cap(b)]); !strings.HasPrefix(s, x.s+rooms) {
				t.Errorf("%s changed what was handed in: %q", x.what, s)
			}
			was := seen(p)
			spoil(b)
			wantSame(t, x.what+" kept what was handed in", p, was)
		}
		b := roomy(text(4)+"x", room)
		want(t, "Load that is refused", p.Load(0, 9, b), api.ErrForm)
		want(t, "Put that is refused", p.Put(4, 0, b), api.ErrRange)
		if s := string(b[:cap(b)]); !strings.HasPrefix(s, text(4)+"x"+rooms) {
			t.Errorf("what was handed in and refused is changed: %q", s)
		}
	}
}

func TestWhatIsToldIsNew(t *testing.T) {
	p := filled(t, 3, 1, 2, 3)
	for page := 1; page <= 3; page++ {
		p.Pin(page)
		p.Put(page, 0, []byte("x"))
	}
	was := seen(p)
	for off := range 33 {
		for n := range 33 - off {
			one, _ := p.Get(2, off, n)
			two, _ := p.Get(2, off, n)
			s := string(two)
			if spoil(one); string(two) != s {
				t.Fatalf("Get(2, %d, %d): two that were told share", off, n)
			}
			spoil(two)
			wantSame(t, "behind a change of what Get told", p, was)
		}
	}
	one, two := p.Dirty(), p.Dirty()
	for i := range one[:cap(one)] {
		one[:cap(one)][i] = 77
	}
	if !slices.Equal(two, []int{0, 1, 2}) || !slices.Equal(p.Dirty(), two) {
		t.Errorf("Dirty: two that were told share: %v, %v", two, p.Dirty())
	}
	wantSame(t, "behind a change of what Dirty told", p, was)
}

// What was told is not changed by what is done later.
func TestWhatWasToldStays(t *testing.T) {
	p := filled(t, 2, 1, 2)
	p.Pin(1)
	p.Put(1, 0, []byte("x"))
	b, _ := p.Get(1, 0, 32)
	dirty := p.Dirty()
	p.Put(1, 0, []byte(text(9)))
	p.Clean(0)
	p.Pin(2)
	p.Put(2, 0, []byte("y"))
	p.Dirty()
	p.Clear()
	if string(b) != "x"+text(1)[1:] || !slices.Equal(dirty, []int{0}) {
		t.Errorf("%q, %v", b, dirty)
	}
}

// R5

func TestTheSameCallsTellTheSame(t *testing.T) {
	rnd := rand.New(rand.NewSource(5))
	for _, n := range []int{1, 2, 5, 64} {
		for range 20 {
			one, two, other := made(t, n), made(t, n), made(t, n)
			pages := drawnPages(rnd, n)
			for range 200 {
				c := drawnCall(rnd, n, pages)
				first := c.do(one)
				drawnCall(rnd, n, pages).do(other)
				if again := c.do(two); again != first {
					t.Fatalf("%+v: told %+v, then %+v", c, first, again)
				}
				two.Find(c.page)
				two.Dirty()
				two.Empty()
			}
			wantSame(t, "behind the same calls", two, seen(one))
		}
	}
}

// A fuzz test

// readCall is a call as four bytes write it.
func readCall(x []byte, n int) call {
	names := strings.Fields("victim load release clean pin unpin get put clear")
	c := call{name: names[int(x[0])%len(names)], i: int(x[1])%(n+2) - 1, page: int(x[2])%(n+3) - 1, off: int(x[3])%40 - 3}
	c.n = int(x[0]) / len(names)
	length := c.n
	if c.name == "load" {
		length = 31 + (int(x[3])+1)%3
	}
	c.s = strings.Repeat(string(x[3:]), length)
	return c
}

func FuzzPart(f *testing.F) {
	f.Add(0, []byte("\x01\x01\x05\x00\x00\x00\x00\x00\x04\x00\x05\x00\x00\x00\x00\x00"))
	f.Add(1, []byte("\x01\x02\x02\x00\x01\x01\x02\x00\x04\x00\x02\x00\x10\x00\x02\x05\x02\x02\x00\x00\x03\x02\x00\x00\x08\x00\x00\x00"))
	f.Add(63, []byte("\x01\x01\x00\x00\x01\x02\x01\x00\x01\x03\x01\x00\x00\x00\x00\x00"))
	f.Fuzz(func(t *testing.T, n int, b []byte) {
		n = 1 + n&63
		p, m := made(t, n), newModel(n)
		if len(b) > 4000 {
			return
		}
		for ; len(b) >= 4; b = b[4:] {
			step(t, fmt.Sprintf("of %d frames", n), p, m, readCall(b[:4], n), rising(-2, n+5))
			wantApart(t, "by bytes", p)
		}
	})
}
