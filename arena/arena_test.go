package arena_test

import (
	"fmt"
	"math"
	"math/rand"
	"slices"
	"strings"
	"testing"

	"allotment/api"
	"allotment/arena"
	"allotment/frame"
	"allotment/part"
)

// text is 32 bytes that are of that page alone.
func text(page int) []byte { return fmt.Appendf(nil, "%032d", page) }

// far are numbers that nothing here has: such too as one has if some bits are
// not looked at.
func far() []int {
	return []int{65, 66, 100, 128, 255, 256, 257, 1<<16 + 1, 1<<31 - 1, 1 << 31, 1 << 32, 1<<32 + 1, 1 << 62, math.MaxInt - 1, math.MaxInt,
		-2, -3, -16, -64, -255, -256, -1<<16 + 1, -1 << 31, -1<<32 + 1, -1 << 62, math.MinInt, math.MinInt + 1}
}

// outside are numbers that none of n has: just beside those that are there, and
// far away.
func outside(n int) []int { return append(far(), -1, -n, -n-1, n, n+1, 2*n) }

// want holds an error against what it should be.
func want(t *testing.T, what string, e, errno api.Errno) {
	t.Helper()
	if e != errno {
		t.Errorf("%s: %d, want %d", what, e, errno)
	}
}

// made is an arena of those quotas.
func made(t *testing.T, quotas ...int) *arena.Arena {
	t.Helper()
	a, e := arena.Cut(quotas...)
	if a == nil || e != api.OK {
		t.Fatalf("Cut(%v): %v, %d", quotas, a, e)
	}
	return a
}

// refused looks that an arena of those quotas is not cut.
func refused(t *testing.T, quotas ...int) {
	t.Helper()
	if a, e := arena.Cut(quotas...); a != nil || e != api.ErrArg {
		t.Errorf("Cut(%v): %v, %d", quotas, a, e)
	}
}

// equal are n quotas that are the same.
func equal(n, quota int) []int { return slices.Repeat([]int{quota}, n) }

// may tells whether quotas may be, by the chapter's words one by one.
func may(quotas []int) bool {
	left := 64
	for _, n := range quotas {
		if n < 1 || n > 64 {
			return false
		}
	}
	for _, n := range quotas {
		left -= n
	}
	return len(quotas) >= 1 && len(quotas) <= 16 && left >= 0
}

// The model

// state is all that is to be seen of a partition by its frames.
type state struct {
	hand   int
	frames []frame.Frame
}

func seen(p *part.Part) state {
	s := state{hand: p.Hand()}
	for i := range p.Len() {
		s.frames = append(s.frames, p.At(i))
	}
	return s
}

func (s state) same(o state) bool { return s.hand == o.hand && slices.Equal(s.frames, o.frames) }

// model is an arena as the chapter tells it: partitions that are each alone.
type model struct {
	quotas []int
	parts  []*part.Part
}

func newModel(t *testing.T, quotas ...int) *model {
	t.Helper()
	m := &model{quotas: slices.Clone(quotas)}
	for _, n := range quotas {
		p, e := part.New(n)
		want(t, "part.New", e, api.OK)
		m.parts = append(m.parts, p)
	}
	return m
}

// rows are the frames, one behind the other: whose each is, and which one there.
func (m *model) rows() [][2]int {
	var l [][2]int
	for i, n := range m.quotas {
		for k := range n {
			l = append(l, [2]int{i, k})
		}
	}
	return l
}

func (m *model) used() int {
	n := 0
	for _, p := range m.parts {
		for _, f := range seen(p).frames {
			if f.Used {
				n++
			}
		}
	}
	return n
}

func (m *model) empty() bool {
	for _, p := range m.parts {
		for _, f := range seen(p).frames {
			if f != (frame.Frame{}) {
				return false
			}
		}
	}
	return true
}

func (m *model) clear() {
	for _, p := range m.parts {
		p.Clear()
	}
}

// compareCut holds how an arena is cut against the model.
func (m *model) compareCut(t *testing.T, a *arena.Arena) {
	t.Helper()
	rows := m.rows()
	if a.Len() != len(m.quotas) || a.Frames() != len(rows) {
		t.Fatalf("%v: %d partitions, %d frames", m.quotas, a.Len(), a.Frames())
	}
	for i, n := range m.quotas {
		if p := a.Part(i); p == nil || p.Len() != n || p != a.Part(i) {
			t.Fatalf("%v: Part(%d): %v", m.quotas, i, p)
		}
		if start := a.Start(i); start != slices.Index(rows, [2]int{i, 0}) {
			t.Fatalf("%v: Start(%d): %d", m.quotas, i, start)
		}
	}
	for n, row := range rows {
		if i, k, is := a.Of(n); i != row[0] || k != row[1] || !is {
			t.Fatalf("%v: Of(%d): %d, %d, %t, want %v", m.quotas, n, i, k, is, row)
		}
	}
	m.compareOutside(t, a)
}

// compareOutside looks at numbers that no partition has, and that no frame has.
func (m *model) compareOutside(t *testing.T, a *arena.Arena) {
	t.Helper()
	for _, i := range outside(len(m.quotas)) {
		if i >= 0 && i < len(m.quotas) {
			continue
		}
		if p := a.Part(i); p != nil {
			t.Fatalf("%v: Part(%d): %v", m.quotas, i, p)
		}
		if start := a.Start(i); start != 0 {
			t.Fatalf("%v: Start(%d): %d", m.quotas, i, start)
		}
	}
	frames := len(m.rows())
	for _, n := range outside(frames) {
		if n >= 0 && n < frames {
			continue
		}
		if i, k, is := a.Of(n); i != 0 || k != 0 || is {
			t.Fatalf("%v: Of(%d): %d, %d, %t", m.quotas, n, i, k, is)
		}
	}
}

// compare holds what an arena's frames have against the model.
func (m *model) compare(t *testing.T, what string, a *arena.Arena) {
	t.Helper()
	for i, p := range m.parts {
		if now, is := seen(a.Part(i)), seen(p); !now.same(is) {
			t.Fatalf("%v: %s: partition %d is\n%+v, want\n%+v", m.quotas, what, i, now, is)
		}
	}
	if n := a.Used(); n != m.used() {
		t.Fatalf("%v: %s: Used: %d, want %d", m.quotas, what, n, m.used())
	}
	if is := a.Empty(); is != m.empty() {
		t.Fatalf("%v: %s: Empty: %t", m.quotas, what, is)
	}
}

// call is a call of a partition, or Clear of the whole arena, and what is handed
// to it.
type call struct {
	name         string
	of           int
	i, page, off int
	b            []byte
	length       int
}

// told is what a call tells.
type told struct {
	i     int
	is    bool
	b     string
	errno api.Errno
}

// do does a call of a partition.
func (c call) do(p *part.Part) (x told) {
	var b []byte
	switch c.name {
	case "victim":
		x.i, x.is = p.Victim()
	case "load":
		x.errno = p.Load(c.i, c.page, c.b)
	case "release":
		x.errno = p.Release(c.i)
	case "clean":
		x.errno = p.Clean(c.i)
	case "pin":
		x.errno = p.Pin(c.page)
	case "unpin":
		x.errno = p.Unpin(c.page)
	case "put":
		x.errno = p.Put(c.page, c.off, c.b)
	case "get":
		b, x.errno = p.Get(c.page, c.off, c.length)
		x.b = string(b)
	case "clear":
		p.Clear()
	}
	return x
}

// step does a call of both, and holds them against each other.
func (m *model) step(t *testing.T, a *arena.Arena, c call) {
	t.Helper()
	what := fmt.Sprintf("behind %+v", c)
	if c.name == "clear all" {
		a.Clear()
		m.clear()
	} else if x, y := c.do(a.Part(c.of)), c.do(m.parts[c.of]); x != y {
		t.Fatalf("%v: %s: %+v, want %+v", m.quotas, what, x, y)
	}
	m.compare(t, what, a)
}

// The examples

func TestExample(t *testing.T) {
	a := made(t, 2, 3)
	if i, k, is := a.Of(3); i != 1 || k != 1 || !is {
		t.Errorf("Of(3): %d, %d, %t", i, k, is)
	}
	if n := a.Start(1); n != 2 {
		t.Errorf("Start(1): %d", n)
	}
	if a.Len() != 2 || a.Frames() != 5 || a.Part(0).Len() != 2 || a.Part(1).Len() != 3 {
		t.Errorf("%d partitions, %d frames", a.Len(), a.Frames())
	}
}

// P15.1

// How many quotas there are.
func TestHowManyQuotas(t *testing.T) {
	refused(t)
	refused(t, []int{}...)
	refused(t, make([]int, 0, 3)...)
	for n := 1; n <= 16; n++ {
		made(t, equal(n, 1)...)
	}
	for _, n := range []int{17, 18, 32, 63, 64, 65, 256, 257, 65537} {
		refused(t, equal(n, 1)...)
	}
}

// How great a quota is, alone and at each place among others.
func TestHowGreatAQuotaIs(t *testing.T) {
	for n := -70; n <= 140; n++ {
		if n < 1 || n > 64 {
			refused(t, n)
			continue
		}
		newModel(t, n).compareCut(t, made(t, n))
	}
	for _, n := range append(far(), 0, -1) {
		refused(t, n)
		for others := 1; others <= 15; others++ {
			for k := 0; k <= others; k++ {
				refused(t, slices.Insert(equal(others, 1), k, n)...)
			}
		}
	}
}

// Quotas that are each allowed, and together 64 or less, or more.
func TestHowGreatAllAre(t *testing.T) {
	for _, l := range [][]int{{64}, {63, 1}, {1, 63}, {32, 32}, {1, 62, 1}, {21, 21, 22}, equal(16, 4), append(equal(15, 1), 49), append([]int{49}, equal(15, 1)...), append(equal(15, 4), 3)} {
		newModel(t, l...).compareCut(t, made(t, l...))
	}
	for _, l := range [][]int{{64, 1}, {1, 64}, {63, 2}, {33, 32}, {32, 33}, {64, 64}, {1, 63, 1}, {21, 22, 22}, append(equal(15, 4), 5), append([]int{5}, equal(15, 4)...), append(equal(15, 1), 50), equal(16, 64), equal(16, 16), equal(13, 5)} {
		refused(t, l...)
	}
}

// Quotas so great that their sum is beyond what an int holds, and comes to an
// allowed one if it runs over.
func TestSumsThatRunOver(t *testing.T) {
	for _, l := range [][]int{
		{math.MaxInt, math.MaxInt, 3}, {math.MaxInt, math.MaxInt, 2 + 64}, {3, math.MaxInt, math.MaxInt}, {1 << 62, 1 << 62, 1 << 62, 1 << 62, 1},
		{math.MinInt, math.MinInt, 5}, {5, math.MinInt, math.MinInt}, {math.MaxInt, math.MinInt, 2}, {math.MinInt, math.MaxInt, 2},
		{1 << 32, -1 << 32, 7}, {65, -1}, {-1, 65}, {100, -60}, {0, 64}, {64, 0}, {1 << 62, 1 << 62, math.MinInt, 9}, {64, 64, math.MinInt, math.MinInt, -100},
		{2, 1 << 32}, {1 << 32, 2}, {1<<32 + 2, 3}, {1 << 31, 1 << 31, 1}, equal(16, math.MaxInt), equal(16, 1<<60), append(equal(16, 1<<60), 1), append(equal(16, 4), 0), append(equal(16, 4), math.MinInt),
	} {
		refused(t, l...)
	}
}

// All lists of up to 3 quotas, of the edges and what is beside them.
func TestAllListsOfEdges(t *testing.T) {
	edges := []int{math.MinInt, -1 << 32, -64, -1, 0, 1, 2, 3, 31, 32, 33, 61, 62, 63, 64, 65, 1 << 32, 1<<32 + 1, 1 << 62, math.MaxInt - 63, math.MaxInt}
	var from func(l []int)
	from = func(l []int) {
		if !may(l) {
			refused(t, l...)
		} else {
			newModel(t, l...).compareCut(t, made(t, l...))
		}
		for _, n := range edges {
			if len(l) < 3 {
				from(append(slices.Clone(l), n))
			}
		}
	}
	from(nil)
}

// cuts goes through all lists of quotas that are together of n frames.
func cuts(n int, do func([]int)) {
	var from func(l []int, left int)
	from = func(l []int, left int) {
		if left == 0 {
			do(l)
		}
		for q := 1; q <= left && len(l) < 16; q++ {
			from(append(slices.Clone(l), q), left-q)
		}
	}
	from(nil, n)
}

func TestAllCutsOfAFewFrames(t *testing.T) {
	for n := 1; n <= 9; n++ {
		cuts(n, func(quotas []int) {
			a, m := made(t, quotas...), newModel(t, quotas...)
			m.compareCut(t, a)
			m.compare(t, "at first", a)
		})
	}
}

// drawnCut are quotas by chance that may be, now and then all 64 frames.
func drawnCut(rnd *rand.Rand) []int {
	n := 1 + rnd.Intn(16)
	l, left := equal(n, 1), 64-n
	for range rnd.Intn(3*left/2 + 1) {
		if left > 0 {
			l[rnd.Intn(n)]++
			left--
		}
	}
	return l
}

func TestCutsByChance(t *testing.T) {
	rnd := rand.New(rand.NewSource(1))
	for range 3000 {
		quotas := drawnCut(rnd)
		a, m := made(t, quotas...), newModel(t, quotas...)
		m.compareCut(t, a)
		m.compare(t, "at first", a)
		more := append(quotas, 1+rnd.Intn(64))
		if _, e := arena.Cut(more...); (e == api.OK) != may(more) {
			t.Fatalf("Cut(%v): %d", more, e)
		}
		quotas[rnd.Intn(len(quotas))] += 65 - a.Frames()
		refused(t, quotas...)
	}
}

// A partition that is told is the arena's own: what is done to it is seen by the
// arena, and by each that is told it again.
func TestAPartitionItself(t *testing.T) {
	a := made(t, 2, 1, 3)
	for i := range a.Len() {
		p := a.Part(i)
		want(t, "Load", p.Load(0, 5, text(5)), api.OK)
		if at, is := a.Part(i).Find(5); at != 0 || !is || a.Part(i) != p {
			t.Errorf("Part(%d) told again: Find(5): %d, %t", i, at, is)
		}
		if a.Used() != i+1 || a.Empty() {
			t.Errorf("behind Load into the partition %d: Used: %d, Empty: %t", i, a.Used(), a.Empty())
		}
		p.Victim()
		if a.Part(i).Hand() != p.Hand() {
			t.Errorf("Part(%d) told again: the hand at %d, want %d", i, a.Part(i).Hand(), p.Hand())
		}
	}
	p := a.Part(2)
	a.Clear()
	if !p.Empty() || p.Hand() != 0 || a.Part(2) != p {
		t.Errorf("Clear is not seen by what was told ahead: %+v", seen(p))
	}
}

// Each is another one.
func TestNoPartitionIsTwo(t *testing.T) {
	a, b := made(t, equal(16, 4)...), made(t, equal(16, 4)...)
	all := map[*part.Part]bool{}
	for i := range 16 {
		all[a.Part(i)], all[b.Part(i)] = true, true
	}
	if len(all) != 32 {
		t.Errorf("%d partitions of 2 times 16", len(all))
	}
}

// P15.2

// Of is told by Start, and Start by Of: each frame is of one partition alone.
func TestOfAndStartTellTheSame(t *testing.T) {
	rnd := rand.New(rand.NewSource(2))
	for range 500 {
		a := made(t, drawnCut(rnd)...)
		known := map[[2]int]bool{}
		for n := range a.Frames() {
			i, k, is := a.Of(n)
			if !is || a.Start(i)+k != n || k < 0 || k >= a.Part(i).Len() || known[[2]int{i, k}] {
				t.Fatalf("Of(%d): %d, %d, %t, and %d begins at %d", n, i, k, is, i, a.Start(i))
			}
			known[[2]int{i, k}] = true
		}
		for i := range a.Len() {
			if of, k, is := a.Of(a.Start(i)); of != i || k != 0 || !is {
				t.Fatalf("Of(Start(%d)): %d, %d, %t", i, of, k, is)
			}
		}
	}
}

// How an arena is cut stays, whatever is done to its frames.
func TestTheCutStays(t *testing.T) {
	for _, quotas := range [][]int{{1}, {64}, {2, 3}, {3, 1, 2}, equal(16, 4)} {
		a, m := made(t, quotas...), newModel(t, quotas...)
		parts := make([]*part.Part, len(quotas))
		for i, n := range quotas {
			parts[i] = a.Part(i)
			for k := range n {
				parts[i].Load(k, 10+k, text(10+k))
				parts[i].Pin(10 + k)
				m.compareCut(t, a)
			}
		}
		a.Clear()
		m.compareCut(t, a)
		for i := range quotas {
			if a.Part(i) != parts[i] {
				t.Errorf("%v: behind Clear the partition %d is another one", quotas, i)
			}
		}
	}
}

// Used is what is used as it is when it is asked, up to all and down again; not
// what is dirty, or pinned, or has bytes.
func TestUsed(t *testing.T) {
	for _, quotas := range [][]int{{1}, {64}, {2, 3}, {5, 1, 1, 7}, equal(16, 4)} {
		a := made(t, quotas...)
		wantUsed := func(what string, n int) {
			t.Helper()
			if a.Used() != n || a.Empty() != (n == 0) {
				t.Fatalf("%v: %s: Used: %d, want %d; Empty: %t", quotas, what, a.Used(), n, a.Empty())
			}
		}
		order := rand.New(rand.NewSource(3)).Perm(a.Frames())
		wantUsed("at first", 0)
		for k, n := range order {
			i, at, _ := a.Of(n)
			p := a.Part(i)
			want(t, "Load", p.Load(at, -at, make([]byte, 32)), api.OK)
			wantUsed("behind Load", k+1)
			want(t, "Load where it is", p.Load(at, -at, text(1)), api.OK)
			want(t, "Load that is refused", p.Load(at, 77, nil), api.ErrForm)
			want(t, "Pin", p.Pin(-at), api.OK)
			want(t, "Put", p.Put(-at, 0, []byte("x")), api.OK)
			p.Victim()
			wantUsed("behind calls that use no more", k+1)
		}
		for k, n := range order {
			i, at, _ := a.Of(n)
			p := a.Part(i)
			want(t, "Release of one that is pinned", p.Release(at), api.ErrPinned)
			want(t, "Unpin", p.Unpin(-at), api.OK)
			want(t, "Clean", p.Clean(at), api.OK)
			wantUsed("behind Unpin", len(order)-k)
			want(t, "Release", p.Release(at), api.OK)
			wantUsed("behind Release", len(order)-k-1)
		}
	}
}

// One frame that is used is enough, wherever it is, be its page 0 and noughts;
// hands that moved are not.
func TestEmpty(t *testing.T) {
	for _, quotas := range [][]int{{1}, {64}, {1, 1}, {2, 3}, {1, 62, 1}, equal(16, 4)} {
		a := made(t, quotas...)
		for n := range a.Frames() {
			i, k, _ := a.Of(n)
			if !a.Empty() {
				t.Fatalf("%v: not empty ahead of frame %d", quotas, n)
			}
			want(t, "Load", a.Part(i).Load(k, 0, make([]byte, 32)), api.OK)
			if a.Empty() {
				t.Fatalf("%v: empty, and frame %d is used", quotas, n)
			}
			want(t, "Release", a.Part(i).Release(k), api.OK)
			a.Part(i).Victim()
		}
		if !a.Empty() {
			t.Fatalf("%v: the hands make it not empty", quotas)
		}
	}
}

// fill fills all frames, pins and changes their pages, and moves the hands.
func fill(t *testing.T, a *arena.Arena) {
	t.Helper()
	for i := range a.Len() {
		p := a.Part(i)
		for k := range p.Len() {
			page := 100*i + k
			want(t, "Load", p.Load(k, page, text(page)), api.OK)
			want(t, "Pin", p.Pin(page), api.OK)
			want(t, "Put", p.Put(page, 0, []byte("x")), api.OK)
		}
		p.Unpin(100 * i)
		p.Victim()
	}
}

// Behind Clear nothing is left, of pins and hands neither, and it may be filled
// again.
func TestClear(t *testing.T) {
	for _, quotas := range [][]int{{1}, {64}, {2, 3}, {1, 62, 1}, {7, 1, 5}, equal(16, 4)} {
		a, empty := made(t, quotas...), newModel(t, quotas...)
		for range 3 {
			a.Clear()
			empty.compare(t, "behind Clear", a)
			a.Clear()
			empty.compare(t, "behind a second Clear", a)
			fill(t, a)
			if a.Used() != a.Frames() || a.Empty() {
				t.Fatalf("%v: filled: Used: %d, Empty: %t", quotas, a.Used(), a.Empty())
			}
		}
	}
}

// Clear is each partition's: of one alone that is not empty, and of hands alone
// that are not at 0.
func TestClearOfOne(t *testing.T) {
	quotas := []int{2, 3, 2}
	empty := newModel(t, quotas...)
	for i := range quotas {
		a := made(t, quotas...)
		a.Part(i).Load(1, 9, text(9))
		a.Clear()
		empty.compare(t, "behind Clear of one page", a)
		a.Part(i).Victim()
		if a.Part(i).Hand() == 0 {
			t.Fatal("the hand is at 0 ahead of Clear")
		}
		a.Clear()
		empty.compare(t, "behind Clear of a hand", a)
	}
}

// P15.3

// kinds are calls of a partition of n frames, of a few pages.
func kinds(of, n int) []call {
	l := []call{{name: "victim", of: of}, {name: "clear", of: of}}
	for i := -1; i <= n; i++ {
		l = append(l, call{name: "release", of: of, i: i}, call{name: "clean", of: of, i: i})
		for _, page := range []int{0, 5} {
			l = append(l, call{name: "load", of: of, i: i, page: page, b: text(page)}, call{name: "load", of: of, i: i, page: page})
		}
	}
	for _, page := range []int{0, 5, 8} {
		l = append(l, call{name: "pin", of: of, page: page}, call{name: "unpin", of: of, page: page}, call{name: "put", of: of, page: page, off: 31, b: []byte("x")},
			call{name: "put", of: of, page: page, off: 32, b: []byte("x")}, call{name: "get", of: of, page: page, off: 30, length: 2})
	}
	return l
}

// What is done to one partition changes nothing of another one: each call of
// each, all being full, and all being empty.
func TestEachCallOfEachPartition(t *testing.T) {
	for _, quotas := range [][]int{{1, 1}, {2, 3}, {3, 1, 2}, {1, 62, 1}, equal(16, 1)} {
		for of, n := range quotas {
			for _, c := range kinds(of, min(n, 3)) {
				for _, full := range []bool{false, true} {
					a := made(t, quotas...)
					if full {
						fill(t, a)
					}
					wantApart(t, a, c)
				}
			}
		}
	}
}

// wantApart does a call twice, and looks that nothing of another partition is
// changed, and that Used and Empty tell what is done to its own.
func wantApart(t *testing.T, a *arena.Arena, c call) {
	t.Helper()
	var was []state
	for i := range a.Len() {
		was = append(was, seen(a.Part(i)))
	}
	for range 2 {
		c.do(a.Part(c.of))
		for i := range a.Len() {
			if now := seen(a.Part(i)); i != c.of && !now.same(was[i]) {
				t.Fatalf("%+v: partition %d is\n%+v, was\n%+v", c, i, now, was[i])
			}
		}
	}
}

// One page may be in each partition, and is another one in each.
func TestOnePageInAllPartitions(t *testing.T) {
	a := made(t, equal(16, 4)...)
	for i := range 16 {
		want(t, "Load", a.Part(i).Load(i%4, 7, text(1000+i)), api.OK)
		want(t, "Pin", a.Part(i).Pin(7), api.OK)
	}
	for i := range 16 {
		want(t, "Put", a.Part(i).Put(7, 0, []byte{byte('a' + i)}), api.OK)
	}
	for i := range 16 {
		b, e := a.Part(i).Get(7, 0, 32)
		if s := string(rune('a'+i)) + string(text(1000 + i)[1:]); string(b) != s || e != api.OK {
			t.Errorf("the page 7 of %d: %q, %d, want %q", i, b, e, s)
		}
		if at, is := a.Part(i).Find(7); at != i%4 || !is {
			t.Errorf("the page 7 of %d is in %d, %t", i, at, is)
		}
		want(t, "Unpin", a.Part(i).Unpin(7), api.OK)
		want(t, "Release", a.Part(i).Release(i%4), api.OK)
		if a.Used() != 15-i {
			t.Errorf("Used: %d, want %d", a.Used(), 15-i)
		}
	}
}

// A partition that is full, and all of whose frames are pinned, gets none of
// another one's.
func TestNoFrameOfAnother(t *testing.T) {
	a := made(t, 2, 3)
	p := a.Part(0)
	for k := range 2 {
		want(t, "Load", p.Load(k, k, text(k)), api.OK)
		want(t, "Pin", p.Pin(k), api.OK)
	}
	want(t, "Load behind the last frame", p.Load(2, 9, text(9)), api.ErrArg)
	if i, is := p.Victim(); i != 0 || is {
		t.Errorf("Victim: %d, %t", i, is)
	}
	if !a.Part(1).Empty() || a.Used() != 2 {
		t.Errorf("Used: %d, %+v", a.Used(), seen(a.Part(1)))
	}
}

// drawnCall is a call by chance.
func drawnCall(rnd *rand.Rand, quotas []int) call {
	names := strings.Fields("victim victim load load load load release clean pin pin pin unpin unpin get get put put put")
	of := rnd.Intn(len(quotas))
	n := quotas[of]
	c := call{name: names[rnd.Intn(len(names))], of: of, i: rnd.Intn(n+2) - 1, page: rnd.Intn(n+3) - 1, off: rnd.Intn(34), length: rnd.Intn(5)}
	if rnd.Intn(100) == 0 {
		c.name = "clear"
	}
	if rnd.Intn(300) == 0 {
		c.name = "clear all"
	}
	c.b = make([]byte, 32)
	if c.name == "put" {
		c.b = c.b[:rnd.Intn(4)]
	}
	rnd.Read(c.b)
	return c
}

func TestCallsByChance(t *testing.T) {
	rnd := rand.New(rand.NewSource(4))
	for range 150 {
		quotas := drawnCut(rnd)
		a, m := made(t, quotas...), newModel(t, quotas...)
		for range 400 {
			m.step(t, a, drawnCall(rnd, quotas))
		}
		m.compareCut(t, a)
	}
}

// What is asked changes nothing.
func TestAskingChangesNothing(t *testing.T) {
	quotas := []int{2, 3, 1}
	a, m := made(t, quotas...), newModel(t, quotas...)
	for _, c := range []call{{name: "load", of: 1, i: 2, page: 4, b: text(4)}, {name: "pin", of: 1, page: 4}, {name: "put", of: 1, page: 4, b: []byte("x")}, {name: "victim", of: 0}} {
		m.step(t, a, c)
	}
	for range 3 {
		m.compareCut(t, a)
		a.Used()
		a.Empty()
		m.compare(t, "behind what asks", a)
	}
}

// Two arenas have nothing in common.
func TestTwoArenas(t *testing.T) {
	rnd := rand.New(rand.NewSource(5))
	quotas := []int{2, 3, 1}
	one, two, m := made(t, quotas...), made(t, quotas...), newModel(t, quotas...)
	fill(t, two)
	for i := range quotas {
		for k := range quotas[i] {
			page := 100*i + k
			m.parts[i].Load(k, page, text(page))
			m.parts[i].Pin(page)
			m.parts[i].Put(page, 0, []byte("x"))
		}
		m.parts[i].Unpin(100 * i)
		m.parts[i].Victim()
	}
	for range 1000 {
		if c := drawnCall(rnd, quotas); c.name == "clear all" {
			one.Clear()
		} else {
			c.do(one.Part(c.of))
		}
		m.compare(t, "behind calls of another arena", two)
	}
}

// R4

// The quotas that are handed in are not changed, and turned behind Cut the arena
// stays.
func TestQuotasAreNotKeptOrChanged(t *testing.T) {
	for _, room := range []int{0, 1, 20} {
		for _, quotas := range [][]int{{1}, {64}, {2, 3}, {3, 1, 2}, equal(16, 4), {64, 1}, {1, 0}, equal(17, 1), {}} {
			whole := append(slices.Clone(quotas), equal(room, 77)...)
			was := slices.Clone(whole)
			a, e := arena.Cut(whole[:len(quotas)]...)
			if !slices.Equal(whole, was) {
				t.Errorf("Cut(%v) changed what was handed in: %v", quotas, whole)
			}
			if e != api.OK {
				continue
			}
			m := newModel(t, quotas...)
			for i := range whole {
				whole[i] = 50 - whole[i]
			}
			m.compareCut(t, a)
			m.compare(t, "behind a change of the quotas", a)
			spoilt := slices.Clone(whole)
			fill(t, a)
			a.Clear()
			m.compareCut(t, a)
			if !slices.Equal(whole, spoilt) {
				t.Errorf("of %v: what is done to the arena changed the quotas: %v", quotas, whole)
			}
		}
	}
}

// R5

func TestTheSameCallsTellTheSame(t *testing.T) {
	rnd := rand.New(rand.NewSource(6))
	for range 60 {
		quotas := drawnCut(rnd)
		one, two, other := made(t, quotas...), made(t, slices.Grow(slices.Clone(quotas), 40)...), made(t, quotas...)
		for range 200 {
			c, d := drawnCall(rnd, quotas), drawnCall(rnd, quotas)
			var first, again told
			if c.name == "clear all" {
				one.Clear()
				two.Clear()
			} else {
				first = c.do(one.Part(c.of))
				d.do(other.Part(d.of))
				again = c.do(two.Part(c.of))
			}
			if first != again || one.Used() != two.Used() || one.Empty() != two.Empty() {
				t.Fatalf("%v: %+v: told %+v, then %+v; Used: %d, then %d", quotas, c, first, again, one.Used(), two.Used())
			}
		}
		for i := range quotas {
			if !seen(one.Part(i)).same(seen(two.Part(i))) {
				t.Fatalf("%v: partition %d is another one behind the same calls", quotas, i)
			}
		}
	}
}

// A fuzz test

// readQuotas are quotas as bytes write them: mostly such as may be.
func readQuotas(b []byte) []int {
	var l []int
	for _, x := range b {
		l = append(l, int(int8(x)))
	}
	return l
}

// readCall is a call as four bytes write it.
func readCall(x []byte, quotas []int) call {
	names := []string{"victim", "load", "release", "clean", "pin", "unpin", "get", "put", "clear", "clear all"}
	of := int(x[1]) % len(quotas)
	n := quotas[of]
	c := call{name: names[int(x[0])%len(names)], of: of, i: int(x[2])%(n+2) - 1, page: int(x[3])%(n+3) - 1, off: int(x[2]) % 34, length: int(x[0]) / 32}
	c.b = slices.Repeat(x[3:4], 32)
	if c.name == "put" {
		c.b = c.b[:c.length]
	}
	return c
}

func FuzzArena(f *testing.F) {
	f.Add([]byte("\x02\x03"), []byte("\x01\x01\x03\x05\x04\x01\x00\x05\x07\x01\x00\x05\x00\x00\x00\x00"))
	f.Add([]byte("\x40\x01"), []byte{})
	f.Add([]byte("\x01\xff"), []byte{})
	f.Add([]byte("\x04\x04\x04\x04\x04\x04\x04\x04\x04\x04\x04\x04\x04\x04\x04\x04"), []byte("\x01\x0f\x01\x01\x09\x00\x00\x00"))
	f.Fuzz(func(t *testing.T, q, b []byte) {
		quotas := readQuotas(q)
		if len(q) > 300 || len(b) > 2000 {
			return
		}
		if !may(quotas) {
			refused(t, quotas...)
			return
		}
		a, m := made(t, quotas...), newModel(t, quotas...)
		m.compareCut(t, a)
		for ; len(b) >= 4; b = b[4:] {
			m.step(t, a, readCall(b[:4], quotas))
		}
		m.compareCut(t, a)
	})
}
