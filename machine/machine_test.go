package machine_test

import (
	"bytes"
	"fmt"
	"math"
	"math/rand"
	"slices"
	"strings"
	"testing"

	"allotment/api"
	"allotment/frame"
	"allotment/machine"
	"allotment/part"
	"allotment/plan"
)

// sector is 16 bytes that are of that sector alone.
func sector(page, k int) string { return fmt.Sprintf("page %04d half %d", page%10000, k) }

// text is the 32 bytes of a page.
func text(page int) string { return sector(page, 0) + sector(page, 1) }

// flat is a Result that can be compared.
type flat struct {
	done   bool
	errno  api.Errno
	hit    bool
	data   string
	add    api.Counts
	id     int
	tick   int
	counts api.Counts
}

func flatten(r machine.Result) flat {
	x := r.Response
	return flat{r.Done, x.Errno, x.Hit, string(x.Data), r.Add, x.ID, x.Tick, x.Counts}
}

// fine is the end of a request that was OK, with what is to be counted.
func fine(add api.Counts) flat { return flat{done: true, add: add} }

// refused is the end of one that was not.
func refused(e api.Errno) flat { return flat{done: true, errno: e} }

// failed is what comes of a step that failed.
func failed() flat { return flat{done: true, errno: api.ErrIO, add: api.Counts{Fails: 1}} }

// The model

// row is a frame as the chapters tell it.
type row struct {
	flags frame.Flags
	page  int
	s     string
}

func emptyRow() row { return row{s: strings.Repeat("\x00", 32)} }

// steps are those of one kind of both sectors of a page.
func steps(kind, page int) []plan.Io {
	return []plan.Io{{Kind: kind, Page: page, K: 0}, {Kind: kind, Page: page, K: 1}}
}

// model is a machine, and its partition, as the chapter tells them.
type model struct {
	hand   int
	rows   []row
	op     int
	waits  []plan.Io
	victim int
	got    string
}

func newModel(n int) *model { return &model{rows: slices.Repeat([]row{emptyRow()}, n)} }

func (m *model) where(page int) int {
	return slices.IndexFunc(m.rows, func(r row) bool { return r.flags.Used && r.page == page })
}

// turn is chapter 13's: -1, if there is no victim.
func (m *model) turn() int {
	if !slices.ContainsFunc(m.rows, func(r row) bool { return !r.flags.Used || r.flags.Pins == 0 }) {
		return -1
	}
	for {
		i := m.hand
		m.hand = (m.hand + 1) % len(m.rows)
		f := &m.rows[i].flags
		if f.Used && f.Pins > 0 {
			continue
		}
		if f.Used && f.Ref {
			f.Ref = false
			continue
		}
		return i
	}
}

func (m *model) begin(r api.Request) flat {
	m.op, m.got = r.Op, ""
	at := m.where(r.Page)
	switch r.Op {
	case 1:
		return m.fetch(r.Page, at)
	case 5:
		if at >= 0 && m.rows[at].flags.Dirty {
			m.waits = steps(2, r.Page)
		}
		m.waits = append(m.waits, plan.Io{Kind: 3})
		return flat{}
	case 6:
		for _, x := range m.rows {
			if x.flags.Dirty {
				m.waits = append(m.waits, steps(2, x.page)...)
			}
		}
		m.waits = append(m.waits, plan.Io{Kind: 3})
		return flat{}
	case 7:
		if at >= 0 && m.rows[at].flags.Pins > 0 {
			return refused(api.ErrPinned)
		}
		if at >= 0 {
			m.rows[at] = emptyRow()
		}
		return flat{done: true}
	case 8:
		return flat{done: true}
	}
	return m.pinned(r, at)
}

// pinned is a read, a write or an unpin.
func (m *model) pinned(r api.Request, at int) flat {
	if at < 0 || m.rows[at].flags.Pins == 0 {
		return refused(api.ErrNotPinned)
	}
	x := &m.rows[at]
	if r.Op == 4 {
		x.flags.Pins--
		return flat{done: true}
	}
	end := r.Off + r.Len + len(r.Data)
	if r.Off < 0 || r.Off > 32 || r.Len < 0 || r.Len > 32 || end > 32 {
		return refused(api.ErrRange)
	}
	x.flags.Ref = true
	if r.Op == 2 {
		return flat{done: true, data: x.s[r.Off:end], add: api.Counts{Reads: 1}}
	}
	x.s = x.s[:r.Off] + string(r.Data) + x.s[end:]
	x.flags.Dirty = true
	return fine(api.Counts{Writes: 1})
}

func (m *model) fetch(page, at int) flat {
	if at >= 0 {
		f := &m.rows[at].flags
		if f.Pins == 100 {
			return refused(api.ErrFull)
		}
		f.Pins++
		f.Ref = true
		return flat{done: true, hit: true, add: api.Counts{Hits: 1}}
	}
	m.victim = m.turn()
	if m.victim < 0 {
		return flat{done: true, errno: api.ErrNoFrame, add: api.Counts{Misses: 1}}
	}
	old := m.rows[m.victim]
	x := flat{add: api.Counts{Misses: 1}}
	if old.flags.Dirty {
		m.waits = steps(2, old.page)
	} else if old.flags.Used {
		x.add.Evicts = 1
		m.rows[m.victim] = emptyRow()
	}
	m.waits = append(m.waits, steps(1, page)...)
	return x
}

func (m *model) end(e api.Errno, b string) flat {
	x := m.waits[0]
	m.waits = m.waits[1:]
	if e != api.OK {
		m.stop()
		return failed()
	}
	if x.Kind == 2 && x.K == 1 {
		at := m.where(x.Page)
		if m.op == 1 {
			m.rows[at] = emptyRow()
			return flat{add: api.Counts{Evicts: 1}}
		}
		m.rows[at].flags.Dirty = false
	}
	if x.Kind == 1 {
		m.got += b
	}
	if x.Kind == 1 && x.K == 1 {
		m.rows[m.victim] = row{frame.Flags{Used: true, Ref: true, Pins: 1}, x.Page, m.got}
	}
	return flat{done: len(m.waits) == 0}
}

func (m *model) stop() { m.waits = nil }

func (m *model) data() string {
	if len(m.waits) == 0 || m.waits[0].Kind != 2 {
		return ""
	}
	x := m.waits[0]
	return m.rows[m.where(x.Page)].s[16*x.K : 16*x.K+16]
}

// Both

// both are a machine and a model of it, which are held against each other
// behind each call.
type both struct {
	t *testing.T
	p *part.Part
	m *machine.Machine
	o *model
}

// made is a machine over n empty frames.
func made(t *testing.T, n int) *both {
	t.Helper()
	p, e := part.New(n)
	if e != api.OK {
		t.Fatal(n, e)
	}
	x := &both{t, p, machine.New(p), newModel(n)}
	x.look("New")
	return x
}

// look holds all that is to be seen against the model.
func (x *both) look(what string) {
	x.t.Helper()
	io, is := x.m.Io()
	want := append(slices.Clone(x.o.waits), plan.Io{})[0]
	busy := len(x.o.waits) > 0
	if x.m.Busy() != busy || is != busy || io != want {
		x.t.Fatalf("%s: Busy: %t; Io: %v, %t; want %v, %t", what, x.m.Busy(), io, is, want, busy)
	}
	if b := x.m.Data(); string(b) != x.o.data() {
		x.t.Fatalf("%s: at %v Data: %q, want %q", what, io, b, x.o.data())
	}
	if x.p.Hand() != x.o.hand {
		x.t.Fatalf("%s: the hand at %d, want %d", what, x.p.Hand(), x.o.hand)
	}
	for i, r := range x.o.rows {
		f := x.p.At(i)
		if f.Flags != r.flags || f.Page != r.page || string(f.Bytes()) != r.s {
			x.t.Fatalf("%s: frame %d: %+v, want %+v", what, i, f, r)
		}
	}
}

// begin begins a request of both.
func (x *both) begin(r api.Request) flat {
	x.t.Helper()
	what := fmt.Sprintf("Begin(%+v)", r)
	want := x.o.begin(r)
	if got := flatten(x.m.Begin(r)); got != want {
		x.t.Fatalf("%s: %+v, want %+v", what, got, want)
	}
	x.look(what)
	return want
}

// end ends a step of both.
func (x *both) end(e api.Errno, b string) flat {
	x.t.Helper()
	io, _ := x.m.Io()
	what := fmt.Sprintf("End(%d, %q) of %v", e, b, io)
	want := x.o.end(e, b)
	if got := flatten(x.m.End(e, []byte(b))); got != want {
		x.t.Fatalf("%s: %+v, want %+v", what, got, want)
	}
	x.look(what)
	return want
}

// stop stops both.
func (x *both) stop() {
	x.t.Helper()
	x.m.Stop()
	x.o.stop()
	x.look("Stop")
}

// ok ends a step without an error: a load with its sector's bytes.
func (x *both) ok() flat {
	x.t.Helper()
	if io, _ := x.m.Io(); io.Kind == plan.Load {
		return x.end(api.OK, sector(io.Page, io.K))
	}
	return x.end(api.OK, "")
}

// whole does a request, with all its steps, and is what comes of the last call.
func (x *both) whole(r api.Request) flat {
	x.t.Helper()
	got := x.begin(r)
	for x.m.Busy() {
		got = x.ok()
	}
	return got
}

// want does so, and holds what comes of it.
func (x *both) want(r api.Request, want flat) {
	x.t.Helper()
	if got := x.whole(r); got != want {
		x.t.Errorf("%+v: %+v, want %+v", r, got, want)
	}
}

// is holds a result that came against one.
func (x *both) is(what string, got, want flat) {
	x.t.Helper()
	if got != want {
		x.t.Errorf("%s: %+v, want %+v", what, got, want)
	}
}

// at holds the step that it waits for, as a text, against one.
func (x *both) at(step string) {
	x.t.Helper()
	io, _ := x.m.Io()
	if s := plan.Text(io); s != step {
		x.t.Errorf("it waits for %q, want %q", s, step)
	}
}

func fetch(page int) api.Request   { return api.Request{Op: api.Fetch, Page: page} }
func unpin(page int) api.Request   { return api.Request{Op: api.Unpin, Page: page} }
func flush(page int) api.Request   { return api.Request{Op: api.Flush, Page: page} }
func discard(page int) api.Request { return api.Request{Op: api.Discard, Page: page} }
func all() api.Request             { return api.Request{Op: api.FlushAll} }
func stats() api.Request           { return api.Request{Op: api.Stats} }

func read(page, off, n int) api.Request {
	return api.Request{Op: api.Read, Page: page, Off: off, Len: n}
}

func write(page, off int, s string) api.Request {
	return api.Request{Op: api.Write, Page: page, Off: off, Data: []byte(s)}
}

// with is a machine over n frames, into which pages are fetched; they are not
// pinned any more, and not referred to.
func with(t *testing.T, n int, pages ...int) *both {
	t.Helper()
	x := made(t, n)
	for _, page := range pages {
		x.want(fetch(page), flat{done: true})
		x.want(unpin(page), flat{done: true})
	}
	for i := range x.o.rows { // laid in anew: neither referred to, nor pinned
		if r := &x.o.rows[i]; r.flags.Used {
			x.p.Load(i, r.page, []byte(r.s))
			r.flags = frame.Flags{Used: true}
		}
	}
	x.look("with")
	return x
}

// dirty makes pages that are there dirty, and not pinned.
func (x *both) dirty(pages ...int) *both {
	x.t.Helper()
	for _, page := range pages {
		x.whole(fetch(page))
		x.want(write(page, 15, "XY"), fine(api.Counts{Writes: 1}))
		x.whole(unpin(page))
	}
	return x
}

// pages are pages of a tenant, and such as just an int has.
func pages() []int {
	return []int{0, 1, 2, 63, 64, 1023, 1 << 31, 1 << 32, 1<<32 + 1, math.MaxInt - 1, math.MaxInt}
}

// errnos are errors, those that the program has none of too.
func errnos() []api.Errno {
	l := []api.Errno{-1, -9, 14, 255, 256, 1 << 31, 1 << 32, math.MaxInt, math.MinInt}
	for e := api.Errno(1); e <= 13; e++ {
		l = append(l, e)
	}
	return l
}

// The example

func TestExample(t *testing.T) {
	p, _ := part.New(1)
	m := machine.New(p)
	if x := flatten(m.Begin(fetch(3))); x != (flat{add: api.Counts{Misses: 1}}) {
		t.Error(x)
	}
	for k := range 2 {
		if x, is := m.Io(); x != (plan.Io{Kind: 1, Page: 3, K: k}) || !is || !m.Busy() {
			t.Error(x, is)
		}
		if x := flatten(m.End(api.OK, []byte(sector(3, k)))); x != (flat{done: k == 1}) {
			t.Error(x)
		}
	}
	if x := flatten(m.Begin(fetch(3))); x != (flat{done: true, hit: true, add: api.Counts{Hits: 1}}) || m.Busy() {
		t.Error(x)
	}
	if f := p.At(0); !f.Used || f.Page != 3 || f.Pins != 2 || !f.Ref || f.Dirty || string(f.Bytes()) != text(3) {
		t.Error(f)
	}
}

// P20.1

func TestNew(t *testing.T) {
	for _, n := range []int{1, 2, 3, 63, 64} {
		made(t, n)
	}
}

// A machine over a partition that has pages takes these as they are, and
// changes nothing till it is asked.
func TestNewOverFramesThatAreUsed(t *testing.T) {
	p, _ := part.New(3)
	p.Load(0, 7, []byte(text(7)))
	p.Load(2, 9, []byte(text(9)))
	p.Pin(9)
	p.Put(9, 0, []byte("p"))
	p.Victim()
	was, hand := []frame.Frame{p.At(0), p.At(1), p.At(2)}, p.Hand()
	m := machine.New(p)
	if io, is := m.Io(); m.Busy() || is || io != (plan.Io{}) || len(m.Data()) != 0 {
		t.Error("busy", io, is)
	}
	if now := []frame.Frame{p.At(0), p.At(1), p.At(2)}; !slices.Equal(now, was) || p.Hand() != hand {
		t.Errorf("%+v, was %+v", now, was)
	}
	if x := flatten(m.Begin(fetch(7))); x != (flat{done: true, hit: true, add: api.Counts{Hits: 1}}) {
		t.Error(x)
	}
	if x := flatten(m.Begin(read(9, 0, 4))); x != (flat{done: true, data: "page", add: api.Counts{Reads: 1}}) {
		t.Error(x)
	}
}

// Two machines have nothing in common.
func TestTwoMachines(t *testing.T) {
	a, b := made(t, 2), made(t, 2)
	a.begin(fetch(1))
	b.look("beside one that is busy")
	b.begin(fetch(2))
	b.ok()
	a.look("beside another one's load")
	a.ok()
	a.ok()
	b.ok()
	a.whole(write(1, 0, "x"))
	b.look("beside a write")
}

func TestFetchOfAPageThatIsNotThere(t *testing.T) {
	for _, page := range pages() {
		x := made(t, 2)
		x.is("Begin", x.begin(fetch(page)), flat{add: api.Counts{Misses: 1}})
		x.at(fmt.Sprintf("load %d 0", page))
		x.is("End", x.ok(), flat{})
		x.at(fmt.Sprintf("load %d 1", page))
		if !x.p.Empty() {
			t.Error("it is there ahead of its second sector")
		}
		x.is("End", x.ok(), flat{done: true})
		if f := x.p.At(0); !f.Used || f.Page != page || f.Pins != 1 || !f.Ref || f.Dirty || string(f.Bytes()) != text(page) {
			t.Errorf("%+v", f)
		}
		x.want(fetch(page), flat{done: true, hit: true, add: api.Counts{Hits: 1}})
	}
}

// Bytes are loaded as they come, noughts and any others.
func TestFetchOfAnyBytes(t *testing.T) {
	for _, b := range []string{strings.Repeat("\x00", 32), strings.Repeat("\xff", 32), strings.Repeat("ab", 16), "\x00" + strings.Repeat("\x80", 31), strings.Repeat("\x01", 31) + "\x00"} {
		x := made(t, 1)
		x.begin(fetch(5))
		x.end(api.OK, b[:16])
		x.end(api.OK, b[16:])
		x.want(read(5, 0, 32), flat{done: true, data: b, add: api.Counts{Reads: 1}})
	}
}

// A page is pinned again as long as a frame takes it: a hundred times.
func TestFetchOfAPageThatIsThere(t *testing.T) {
	x := with(t, 2, 4, 5)
	for k := range 100 {
		x.want(fetch(5), flat{done: true, hit: true, add: api.Counts{Hits: 1}})
		if f := x.p.At(1); f.Pins != k+1 || !f.Ref {
			t.Fatalf("%+v", f)
		}
	}
	was := x.p.At(1)
	for range 3 {
		x.want(fetch(5), refused(api.ErrFull))
	}
	if x.p.At(1) != was {
		t.Errorf("%+v, was %+v", x.p.At(1), was)
	}
	x.want(unpin(5), flat{done: true})
	x.want(fetch(5), flat{done: true, hit: true, add: api.Counts{Hits: 1}})
	x.want(fetch(5), refused(api.ErrFull))
	x.want(fetch(4), flat{done: true, hit: true, add: api.Counts{Hits: 1}})
}

// One that was not unpinned till now, and one that is dirty, are there too.
func TestFetchOfADirtyPageIsAHit(t *testing.T) {
	x := with(t, 2, 4).dirty(4)
	x.want(fetch(4), flat{done: true, hit: true, add: api.Counts{Hits: 1}})
	if f := x.p.At(0); !f.Dirty || f.Pins != 1 {
		t.Errorf("%+v", f)
	}
}

func TestVictimsThatAreEmpty(t *testing.T) {
	for _, n := range []int{1, 2, 3, 64} {
		x := made(t, n)
		for k := range n {
			x.is("Begin", x.begin(fetch(100+k)), flat{add: api.Counts{Misses: 1}})
			x.ok()
			x.ok()
			if i, is := x.p.Find(100 + k); i != k || !is {
				t.Errorf("of %d frames: the page is in frame %d, %t, want %d", n, i, is, k)
			}
		}
		x.want(fetch(1000), flat{done: true, errno: api.ErrNoFrame, add: api.Counts{Misses: 1}})
	}
}

// One that is used and clean is released at once: its frame is empty while the
// other page is loaded.
func TestVictimsThatAreClean(t *testing.T) {
	x := with(t, 2, 8, 9)
	for k, page := range []int{3, 8, 9, 3} {
		x.is("Begin", x.begin(fetch(page)), flat{add: api.Counts{Misses: 1, Evicts: 1}})
		x.at(fmt.Sprintf("load %d 0", page))
		if f := x.p.At(k % 2); f != (frame.Frame{}) {
			t.Errorf("the victim is not released: %+v", f)
		}
		x.ok()
		if f := x.p.At(k % 2); f != (frame.Frame{}) {
			t.Errorf("the page is there too early: %+v", f)
		}
		x.is("End", x.ok(), flat{done: true})
		x.whole(unpin(page))
	}
}

// One that is dirty is stored first: it is neither clean nor released ahead of
// its second sector, and is both behind it.
func TestVictimsThatAreDirty(t *testing.T) {
	x := with(t, 1, 8).dirty(8)
	stays := func(what string) {
		t.Helper()
		if f := x.p.At(0); !f.Used || !f.Dirty || f.Page != 8 || string(f.Bytes()) != "page 0008 half XYage 0008 half 1" {
			t.Errorf("%s: %+v", what, f)
		}
	}
	x.is("Begin", x.begin(fetch(3)), flat{add: api.Counts{Misses: 1}})
	x.at("store 8 0")
	stays("at the first store")
	x.is("End", x.ok(), flat{})
	x.at("store 8 1")
	stays("at the second store")
	x.is("End", x.ok(), flat{add: api.Counts{Evicts: 1}})
	x.at("load 3 0")
	if !x.p.Empty() {
		t.Error("it is not released")
	}
	x.is("End", x.ok(), flat{})
	x.at("load 3 1")
	if !x.p.Empty() {
		t.Error("the page is there too early")
	}
	x.is("End", x.ok(), flat{done: true})
	if f := x.p.At(0); f.Dirty || f.Page != 3 || f.Pins != 1 || string(f.Bytes()) != text(3) {
		t.Errorf("%+v", f)
	}
}

// The page 0, dirty, goes and comes as others do, though empty frames have
// Page 0.
func TestThePage0(t *testing.T) {
	x := made(t, 2)
	x.want(discard(0), flat{done: true})
	x.want(read(0, 0, 1), refused(api.ErrNotPinned))
	x.want(unpin(0), refused(api.ErrNotPinned))
	x.is("Begin", x.begin(flush(0)), flat{})
	x.at("barrier")
	x.ok()
	x.want(fetch(0), flat{done: true})
	x.want(fetch(0), flat{done: true, hit: true, add: api.Counts{Hits: 1}})
	x.want(write(0, 0, "!"), fine(api.Counts{Writes: 1}))
	x.whole(unpin(0))
	x.whole(unpin(0))
	x.want(fetch(1), flat{done: true})
	x.is("Begin", x.begin(fetch(2)), flat{add: api.Counts{Misses: 1}})
	x.at("store 0 0")
	x.ok()
	x.is("End", x.ok(), flat{add: api.Counts{Evicts: 1}})
	x.at("load 2 0")
	x.ok()
	x.ok()
	x.want(fetch(0), flat{done: true, errno: api.ErrNoFrame, add: api.Counts{Misses: 1}})
}

// The hand goes as chapter 13 tells: frames that are referred to are passed by
// once, pinned ones always; and each fetch asks once.
func TestVictimsInTheHandsRow(t *testing.T) {
	x := with(t, 4, 10, 11, 12, 13)
	x.whole(fetch(10)) // pinned
	x.whole(fetch(11)) // referred to
	x.whole(unpin(11))
	x.dirty(12)
	for _, want := range []struct {
		page  int
		steps string
		frame int
	}{
		{20, "load 20 0, load 20 1", 3},
		{21, "load 21 0, load 21 1", 1},
		{22, "store 12 0, store 12 1, load 22 0, load 22 1", 2},
	} {
		var steps []string
		x.begin(fetch(want.page))
		for x.m.Busy() {
			io, _ := x.m.Io()
			steps = append(steps, plan.Text(io))
			x.ok()
		}
		if s := strings.Join(steps, ", "); s != want.steps {
			t.Errorf("fetch of %d: %s, want %s", want.page, s, want.steps)
		}
		if i, is := x.p.Find(want.page); i != want.frame || !is {
			t.Errorf("%d is in frame %d, %t, want %d", want.page, i, is, want.frame)
		}
	}
}

// Where all frames are pinned the fetch is done at once, and still one of
// Misses; nothing is changed by it.
func TestNoVictim(t *testing.T) {
	for _, n := range []int{1, 2, 64} {
		x := made(t, n)
		for k := range n {
			x.whole(fetch(k))
		}
		hand := x.p.Hand()
		for range 3 {
			x.want(fetch(n), flat{done: true, errno: api.ErrNoFrame, add: api.Counts{Misses: 1}})
		}
		if x.p.Hand() != hand || x.m.Busy() {
			t.Errorf("the hand at %d, was %d", x.p.Hand(), hand)
		}
		x.want(unpin(n/2), flat{done: true})
		x.is("Begin", x.begin(fetch(n)), flat{add: api.Counts{Misses: 1, Evicts: 1}})
	}
}

func TestRead(t *testing.T) {
	x := with(t, 2, 6)
	x.want(read(6, 0, 1), refused(api.ErrNotPinned))
	x.want(read(7, 0, 1), refused(api.ErrNotPinned))
	x.want(read(7, 30, 3), refused(api.ErrNotPinned))
	x.want(read(6, 30, 3), refused(api.ErrNotPinned))
	x.whole(fetch(6))
	x.want(read(7, 0, 1), refused(api.ErrNotPinned))
	for off := 0; off <= 32; off++ {
		for n := 0; off+n <= 32; n++ {
			x.want(read(6, off, n), flat{done: true, data: text(6)[off : off+n], add: api.Counts{Reads: 1}})
		}
		x.want(read(6, off, 33-off), refused(api.ErrRange))
	}
	for _, bad := range []api.Request{read(6, -1, 1), read(6, 0, -1), read(6, 33, 0), read(6, 0, 33)} {
		x.want(bad, refused(api.ErrRange))
	}
	if f := x.p.At(0); f.Dirty {
		t.Error("it is dirty by a read")
	}
	x.whole(unpin(6))
	x.want(read(6, 0, 1), refused(api.ErrNotPinned))
}

func TestWrite(t *testing.T) {
	x := with(t, 2, 6)
	x.want(write(6, 0, "a"), refused(api.ErrNotPinned))
	x.want(write(7, 0, "a"), refused(api.ErrNotPinned))
	x.want(write(7, 31, "ab"), refused(api.ErrNotPinned))
	x.whole(fetch(6))
	for _, bad := range []api.Request{write(6, 31, "ab"), write(6, 33, ""), write(6, -1, "a"), write(6, 0, strings.Repeat("x", 33))} {
		x.want(bad, refused(api.ErrRange))
	}
	if x.p.At(0).Dirty {
		t.Error("it is dirty by a write that was refused")
	}
	x.want(write(6, 15, "XY"), fine(api.Counts{Writes: 1}))
	x.want(read(6, 14, 4), flat{done: true, data: " XYa", add: api.Counts{Reads: 1}})
	x.want(write(6, 0, strings.Repeat("z", 32)), fine(api.Counts{Writes: 1}))
	x.want(read(6, 0, 32), flat{done: true, data: strings.Repeat("z", 32), add: api.Counts{Reads: 1}})
	x.want(write(6, 31, "\x00"), fine(api.Counts{Writes: 1}))
	x.want(read(6, 30, 2), flat{done: true, data: "z\x00", add: api.Counts{Reads: 1}})
	x.whole(unpin(6))
	x.want(write(6, 0, "a"), refused(api.ErrNotPinned))
}

// A write of no bytes is one too: counted, and the page dirty (chapter 12).
func TestWriteOfNothing(t *testing.T) {
	for _, off := range []int{0, 16, 32} {
		x := with(t, 1, 6)
		x.whole(fetch(6))
		x.want(write(6, off, ""), fine(api.Counts{Writes: 1}))
		if f := x.p.At(0); !f.Dirty || string(f.Bytes()) != text(6) {
			t.Errorf("%+v", f)
		}
	}
}

func TestUnpin(t *testing.T) {
	x := with(t, 2, 6)
	x.want(unpin(6), refused(api.ErrNotPinned))
	x.want(unpin(7), refused(api.ErrNotPinned))
	for range 3 {
		x.whole(fetch(6))
	}
	x.want(unpin(7), refused(api.ErrNotPinned))
	for range 3 {
		x.want(unpin(6), flat{done: true})
	}
	x.want(unpin(6), refused(api.ErrNotPinned))
}

// stepsOf begins a request, and does its steps, which it tells as texts.
func (x *both) stepsOf(r api.Request) string {
	x.t.Helper()
	var l []string
	x.begin(r)
	for x.m.Busy() {
		io, _ := x.m.Io()
		l = append(l, plan.Text(io))
		x.ok()
	}
	return strings.Join(l, ", ")
}

func (x *both) wantSteps(r api.Request, want string) {
	x.t.Helper()
	if s := x.stepsOf(r); s != want {
		x.t.Errorf("%+v: the steps %q, want %q", r, s, want)
	}
}

func TestFlush(t *testing.T) {
	x := with(t, 3, 4, 5).dirty(5)
	x.wantSteps(flush(4), "barrier")
	x.wantSteps(flush(6), "barrier")
	x.wantSteps(flush(0), "barrier")
	if !x.p.At(1).Dirty {
		t.Error("another page is clean by it")
	}
	x.wantSteps(flush(5), "store 5 0, store 5 1, barrier")
	x.wantSteps(flush(5), "barrier")
	if f := x.p.At(1); !f.Used || f.Dirty || f.Page != 5 || string(f.Bytes()) != "page 0005 half XYage 0005 half 1" {
		t.Errorf("%+v", f)
	}
}

// A page is clean behind its second sector's store: not earlier, and not just
// behind the barrier. It stays where it is, pinned or not.
func TestFlushOfADirtyPage(t *testing.T) {
	for _, pins := range []int{0, 1, 100} {
		x := with(t, 2, 4, 5).dirty(4, 5)
		for range pins {
			x.whole(fetch(5))
		}
		is := func(what string, dirty bool) {
			t.Helper()
			if f := x.p.At(1); f.Dirty != dirty || !f.Used || f.Page != 5 || f.Pins != pins {
				t.Errorf("%s: %+v", what, f)
			}
		}
		x.is("Begin", x.begin(flush(5)), flat{})
		is("at the first store", true)
		x.is("End", x.ok(), flat{})
		is("at the second store", true)
		x.is("End", x.ok(), flat{})
		is("at the barrier", false)
		x.is("End", x.ok(), flat{done: true})
		is("behind it", false)
		if !x.p.At(0).Dirty {
			t.Error("the other page is clean")
		}
	}
}

func TestFlushAll(t *testing.T) {
	x := with(t, 4, 7, 3, 9)
	x.wantSteps(all(), "barrier")
	x.dirty(3)
	x.wantSteps(all(), "store 3 0, store 3 1, barrier")
	x.wantSteps(all(), "barrier")
	x.dirty(9, 7)
	x.wantSteps(all(), "store 7 0, store 7 1, store 9 0, store 9 1, barrier")
	x.dirty(9, 3, 7)
	x.wantSteps(all(), "store 7 0, store 7 1, store 3 0, store 3 1, store 9 0, store 9 1, barrier")
	if l := x.p.Dirty(); len(l) != 0 {
		t.Error(l)
	}
	for i, page := range []int{7, 3, 9} {
		if f := x.p.At(i); !f.Used || f.Page != page {
			t.Errorf("frame %d: %+v", i, f)
		}
	}
}

// Of many pages each is clean once its own second sector is stored.
func TestFlushAllCleansOneByOne(t *testing.T) {
	const n = 64
	x := made(t, n)
	for k := range n {
		x.want(fetch(n-k), flat{done: true})
		x.want(write(n-k, k%32, "w"), fine(api.Counts{Writes: 1}))
	}
	x.begin(all())
	for k := range n {
		for s := range 2 {
			x.at(fmt.Sprintf("store %d %d", n-k, s))
			if l := x.p.Dirty(); len(l) != n-k || l[0] != k {
				t.Fatalf("at frame %d, sector %d: %v are dirty", k, s, l)
			}
			x.is("End", x.ok(), flat{})
		}
	}
	if l := x.p.Dirty(); len(l) != 0 {
		t.Error(l)
	}
	x.at("barrier")
	x.is("End", x.ok(), flat{done: true})
}

func TestDiscard(t *testing.T) {
	x := with(t, 3, 4, 5, 6).dirty(5)
	x.want(discard(9), flat{done: true})
	x.want(discard(4), flat{done: true})
	x.want(discard(4), flat{done: true})
	x.want(discard(5), flat{done: true})
	if x.p.At(0) != (frame.Frame{}) || x.p.At(1) != (frame.Frame{}) || x.p.At(2).Page != 6 {
		t.Errorf("%+v", x.p)
	}
	x.whole(fetch(6))
	x.whole(fetch(6))
	x.want(discard(6), refused(api.ErrPinned))
	x.whole(unpin(6))
	x.want(discard(6), refused(api.ErrPinned))
	x.whole(unpin(6))
	x.want(discard(6), flat{done: true})
	if !x.p.Empty() {
		t.Error("not empty")
	}
	x.wantSteps(all(), "barrier")
}

// What was written, and then discarded, is not there any more: the page is
// fetched as the device has it.
func TestFetchBehindDiscard(t *testing.T) {
	x := with(t, 1, 4).dirty(4)
	x.want(discard(4), flat{done: true})
	x.wantSteps(fetch(4), "load 4 0, load 4 1")
	x.want(read(4, 0, 32), flat{done: true, data: text(4), add: api.Counts{Reads: 1}})
}

func TestStats(t *testing.T) {
	x := with(t, 2, 4).dirty(4)
	x.want(stats(), flat{done: true})
	x = made(t, 1)
	x.want(stats(), flat{done: true})
}

// P20.2

// hard is a machine whose next operations have all steps that they may have:
// the victim (the page 5, in the last frame) is dirty, so are all pages, in a
// row that is not the pages' own.
func hard(t *testing.T) *both {
	t.Helper()
	x := with(t, 3, 7, 2, 5).dirty(7, 2, 5)
	for _, page := range []int{7, 2, 2} {
		x.whole(fetch(page))
	}
	return x
}

// clean is one whose next victim is clean.
func clean(t *testing.T) *both {
	t.Helper()
	x := with(t, 3, 7, 2, 5)
	x.whole(fetch(2))
	return x
}

// empty is one whose next victim is empty.
func empty(t *testing.T) *both {
	t.Helper()
	x := with(t, 3, 7)
	x.whole(fetch(7))
	return x
}

// steppers are requests that have steps, each with how many.
func steppers() []struct {
	name string
	in   func(*testing.T) *both
	r    api.Request
	n    int
} {
	return []struct {
		name string
		in   func(*testing.T) *both
		r    api.Request
		n    int
	}{
		{"fetch, dirty", hard, fetch(9), 4},
		{"fetch, clean", clean, fetch(9), 2},
		{"fetch, empty", empty, fetch(9), 2},
		{"flush, dirty", hard, flush(2), 3},
		{"flush, clean", clean, flush(2), 1},
		{"flush, not there", empty, flush(2), 1},
		{"flushall, all", hard, all(), 7},
		{"flushall, none", clean, all(), 1},
	}
}

// to is a machine that has begun that request, and waits for the step k.
func to(t *testing.T, in func(*testing.T) *both, r api.Request, k int) *both {
	t.Helper()
	x := in(t)
	if x.begin(r).done {
		t.Fatalf("%+v is done at once", r)
	}
	for range k {
		if x.ok().done {
			t.Fatalf("%+v is done ahead of the step %d", r, k)
		}
	}
	return x
}

func TestHowManySteps(t *testing.T) {
	for _, s := range steppers() {
		x := to(t, s.in, s.r, s.n-1)
		if x.ok() != (flat{done: true}) || x.m.Busy() {
			t.Errorf("%s: not done behind %d steps", s.name, s.n)
		}
	}
}

// A step that fails ends the operation; what was done ahead stays, as the
// model, which just forgets its steps, tells.
func TestStepsThatFail(t *testing.T) {
	for _, s := range steppers() {
		for k := range s.n {
			for _, e := range errnos() {
				x := to(t, s.in, s.r, k)
				if x.end(e, "") != failed() || x.m.Busy() {
					t.Errorf("%s: no failure at the step %d with %d", s.name, k, e)
				}
				x.whole(s.r)
				x.whole(stats())
			}
		}
	}
}

// Bytes beside an error are not looked at.
func TestBytesBesideAnError(t *testing.T) {
	for _, s := range steppers() {
		for k := range s.n {
			for _, b := range []string{sector(1, 1), "short", strings.Repeat("long", 20)} {
				x := to(t, s.in, s.r, k)
				x.is(s.name, x.end(api.ErrIO, b), failed())
			}
		}
	}
}

// Bytes beside a step that is no load are not looked at either.
func TestBytesBesideStores(t *testing.T) {
	for _, s := range steppers() {
		for k := range s.n {
			x := to(t, s.in, s.r, k)
			if io, _ := x.m.Io(); io.Kind == plan.Load {
				continue
			}
			x.end(api.OK, sector(1, 1))
			for x.m.Busy() {
				x.ok()
			}
		}
	}
}

// What stays, told one by one.
func TestWhatStaysBehindAFailure(t *testing.T) {
	x := to(t, hard, fetch(9), 0)
	x.end(api.ErrIO, "")
	if f := x.p.At(2); !f.Dirty || f.Page != 5 || x.p.Hand() != 0 {
		t.Errorf("the first store: %+v, the hand at %d", f, x.p.Hand())
	}
	x = to(t, hard, fetch(9), 1)
	x.end(api.ErrIO, "")
	if f := x.p.At(2); !f.Dirty || f.Page != 5 || string(f.Bytes()) != "page 0005 half XYage 0005 half 1" {
		t.Errorf("the second store: %+v", f)
	}
	for k := 2; k < 4; k++ {
		x = to(t, hard, fetch(9), k)
		x.end(api.ErrIO, "")
		if f := x.p.At(2); f != (frame.Frame{}) {
			t.Errorf("a load: %+v", f)
		}
	}
	for k, dirty := range []bool{true, true, false} {
		x = to(t, hard, flush(2), k)
		x.end(api.ErrIO, "")
		if f := x.p.At(1); f.Dirty != dirty || f.Page != 2 {
			t.Errorf("the step %d of flush: %+v", k, f)
		}
	}
	for k := range 7 {
		x = to(t, hard, all(), k)
		x.end(api.ErrIO, "")
		if l := x.p.Dirty(); len(l) != 3-k/2 {
			t.Errorf("the step %d of flushall: %v are dirty", k, l)
		}
	}
}

// Io and Data are the same, however often they are asked, and change nothing.
func TestIoAndDataOfEachStep(t *testing.T) {
	for _, s := range steppers() {
		for k := range s.n {
			x := to(t, s.in, s.r, k)
			for range 3 {
				io, is := x.m.Io()
				b := x.m.Data()
				if !is || !x.m.Busy() || io.Kind < 1 || io.Kind > 3 {
					t.Errorf("%s, step %d: %v, %t", s.name, k, io, is)
				}
				if io.Kind == plan.Store && len(b) != 16 || io.Kind != plan.Store && len(b) != 0 {
					t.Errorf("%s, step %d: %v has the data %q", s.name, k, io, b)
				}
				x.look(s.name)
			}
		}
	}
}

func TestDataOfStores(t *testing.T) {
	halves := []string{"page 0005 half X", "Yage 0005 half 1"}
	for k, half := range halves {
		x := to(t, hard, fetch(9), k)
		if b := x.m.Data(); string(b) != half {
			t.Errorf("sector %d: %q", k, b)
		}
		x = to(t, hard, all(), 4+k)
		if b := x.m.Data(); string(b) != half {
			t.Errorf("sector %d: %q", k, b)
		}
	}
}

// Data is what the page is now, and not what it was when the request began; of
// a page that is not pinned, and not referred to, too, and that stays so.
func TestDataIsOfThePageNow(t *testing.T) {
	for k := range 2 {
		x := to(t, hard, all(), k)
		if b := x.m.Data(); string(b) != "page 0007 half XYage 0007 half 1"[16*k:16*k+16] {
			t.Fatalf("%q", b)
		}
		x.p.Pin(7)
		x.p.Put(7, 16*k+3, []byte("NOW"))
		x.p.Unpin(7)
		want := x.p.At(0)
		if b := x.m.Data(); string(b) != string(want.Bytes()[16*k:16*k+16]) || string(b[3:6]) != "NOW" {
			t.Errorf("sector %d: %q", k, b)
		}
		if x.p.At(0) != want {
			t.Errorf("Data changed the frame: %+v, was %+v", x.p.At(0), want)
		}
	}
	x := with(t, 1, 8).dirty(8)
	x.begin(fetch(3))
	was := x.p.At(0)
	if was.Ref || was.Pins != 0 || string(x.m.Data()) != "page 0008 half X" || x.p.At(0) != was {
		t.Errorf("%+v, was %+v", x.p.At(0), was)
	}
}

// Where the page that is stored went by another hand nothing is told of
// another one, and nothing panics.
func TestAPageThatIsTakenAway(t *testing.T) {
	for _, s := range steppers() {
		for k := range s.n {
			x := to(t, s.in, s.r, k)
			x.p.Clear()
			for x.m.Busy() {
				io, _ := x.m.Io()
				if b := x.m.Data(); len(b) != 0 {
					t.Errorf("%s, step %d: %v has the data %q", s.name, k, io, b)
				}
				x.m.End(api.OK, []byte(sector(9, io.K)))
			}
		}
	}
}

// Nor is another page than the one that went taken for it.
func TestOnePageThatIsTakenAway(t *testing.T) {
	for k := range 2 {
		x := to(t, hard, fetch(9), k)
		x.p.Release(2)
		was := []frame.Frame{x.p.At(0), x.p.At(1)}
		for range 2 - k {
			if b := x.m.Data(); len(b) != 0 {
				t.Errorf("Data of a page that went: %q", b)
			}
			x.m.End(api.OK, nil)
		}
		if now := []frame.Frame{x.p.At(0), x.p.At(1)}; !slices.Equal(now, was) {
			t.Errorf("%+v, was %+v", now, was)
		}
	}
	x := with(t, 2, 4, 5).dirty(4, 5)
	x.m.Begin(flush(5))
	x.p.Release(1)
	x.m.End(api.OK, nil)
	x.m.End(api.OK, nil)
	if f := x.p.At(0); !f.Dirty || f.Page != 4 {
		t.Errorf("%+v", f)
	}
}

// One that is busy may not be given a request; if it is, it does that one, and
// nothing of the other.
func TestBeginOfOneThatIsBusy(t *testing.T) {
	for _, s := range steppers() {
		for k := range s.n {
			for _, next := range []api.Request{fetch(11), flush(5), all(), stats(), read(7, 0, 4), discard(5), {Op: 99}} {
				x, y := to(t, s.in, s.r, k), to(t, s.in, s.r, k)
				y.stop()
				got, want := flatten(x.m.Begin(next)), flatten(y.m.Begin(next))
				for y.m.Busy() && got == want {
					io, _ := y.m.Io()
					b := []byte(sector(11, io.K))
					got, want = flatten(x.m.End(api.OK, b)), flatten(y.m.End(api.OK, b))
				}
				if got != want || x.m.Busy() {
					t.Errorf("%s, step %d, then %+v: %+v, want %+v", s.name, k, next, got, want)
				}
				for i := range x.p.Len() {
					if x.p.At(i) != y.p.At(i) {
						t.Errorf("%s, step %d, then %+v: frame %d: %+v, want %+v", s.name, k, next, i, x.p.At(i), y.p.At(i))
					}
				}
			}
		}
	}
}

// Where the page came into another frame by another hand it does not come into
// a second one.
func TestAPageThatCameOtherwise(t *testing.T) {
	x := made(t, 2)
	x.m.Begin(fetch(9))
	x.p.Load(1, 9, []byte(text(8)))
	x.m.End(api.OK, []byte(sector(9, 0)))
	if got := flatten(x.m.End(api.OK, []byte(sector(9, 1)))); got != refused(api.ErrArg) || x.m.Busy() {
		t.Errorf("%+v", got)
	}
	if f := x.p.At(1); x.p.At(0) != (frame.Frame{}) || string(f.Bytes()) != text(8) {
		t.Errorf("%+v, %+v", x.p.At(0), f)
	}
}

// What is no request, no step or no sector is none that may be handed in; yet
// nothing panics, and no page is there that was not loaded whole.
func TestWhatMayNotBeHandedIn(t *testing.T) {
	x := hard(t)
	for _, op := range []int{0, -1, 9, 255, 256, 257, 1<<32 + 1, math.MaxInt, math.MinInt} {
		if got := flatten(x.m.Begin(api.Request{Op: op, Page: 2})); got != refused(api.ErrForm) || x.m.Busy() {
			t.Errorf("Begin of the operation %d: %+v", op, got)
		}
	}
	for _, e := range append(errnos(), api.OK) {
		if got := flatten(x.m.End(e, []byte(sector(1, 0)))); got != (flat{}) {
			t.Errorf("End of no step: %+v", got)
		}
	}
	x.look("behind what may not be")
	for _, b := range []string{"", "fifteen bytes -", "seventeen bytes -", strings.Repeat("x", 32)} {
		for k := range 2 {
			x := to(t, empty, fetch(9), 0)
			for s := range 2 {
				half := sector(9, s)
				if s == k {
					half = b
				}
				x.m.End(api.OK, []byte(half))
			}
			if _, is := x.p.Find(9); is || x.m.Busy() {
				t.Errorf("a page is there of %q", b)
			}
		}
	}
}

// Stop leaves the frames as they are; behind it all begins anew, at the first
// step.
func TestStopAtEachStep(t *testing.T) {
	for _, s := range steppers() {
		for k := range s.n {
			for _, next := range []api.Request{s.r, fetch(11), flush(5), all(), stats(), read(7, 0, 4), discard(7), discard(5)} {
				x := to(t, s.in, s.r, k)
				x.stop()
				x.stop()
				x.whole(next)
				x.whole(s.r)
			}
		}
	}
}

func TestStopOfOneThatIsNotBusy(t *testing.T) {
	x := made(t, 2)
	x.stop()
	x.want(fetch(3), flat{done: true})
	x.stop()
	x.want(read(3, 0, 4), flat{done: true, data: "page", add: api.Counts{Reads: 1}})
}

// What was loaded ahead of a failure, or of Stop, is not in a page that is
// fetched later.
func TestNothingIsLeftOfALoad(t *testing.T) {
	for _, stop := range []func(*both){(*both).stop, func(x *both) { x.end(api.ErrIO, "") }} {
		x := made(t, 1)
		x.begin(fetch(1))
		x.end(api.OK, strings.Repeat("s", 16))
		stop(x)
		x.want(fetch(2), flat{done: true})
		x.want(read(2, 0, 32), flat{done: true, data: text(2), add: api.Counts{Reads: 1}})
	}
}

// A flush behind a fetch that was stopped, or done, empties nothing; a fetch
// behind a flush does.
func TestFlushAndFetchByTurns(t *testing.T) {
	x := to(t, hard, fetch(9), 1)
	x.stop()
	x.wantSteps(all(), "store 7 0, store 7 1, store 2 0, store 2 1, store 5 0, store 5 1, barrier")
	if len(x.p.Dirty()) != 0 || x.p.At(2).Page != 5 {
		t.Errorf("%+v", x.p.At(2))
	}
	x.dirty(7, 5)
	x.want(fetch(9), flat{done: true})
	x.want(unpin(9), flat{done: true})
	x.dirty(5)
	x.wantSteps(flush(5), "store 5 0, store 5 1, barrier")
	if i, is := x.p.Find(5); i != 2 || !is {
		t.Error(i, is)
	}
}

// P20.3

// Of any quota no operation takes more steps than Most tells, and one takes as
// many.
func TestAtMostAsManySteps(t *testing.T) {
	for n := 1; n <= 64; n++ {
		most := 0
		count := func(x *both, r api.Request) {
			k := 0
			done := x.begin(r).done
			for ; x.m.Busy(); k++ {
				done = x.ok().done
			}
			if !done {
				t.Fatalf("of %d frames: %+v is not done, and not busy", n, r)
			}
			if k > plan.Most(n) {
				t.Errorf("of %d frames: %+v takes %d steps, at most %d", n, r, k, plan.Most(n))
			}
			most = max(most, k)
		}
		x := made(t, n)
		for _, r := range []api.Request{fetch(100), flush(100), fetch(101), all()} {
			for k := range n {
				count(x, fetch(k))
				count(x, write(k, 0, "w"))
				count(x, unpin(k))
			}
			count(x, r)
			count(x, unpin(r.Page))
		}
		if most != plan.Most(n) {
			t.Errorf("of %d frames: %d steps at most, want %d", n, most, plan.Most(n))
		}
	}
}

// R3

// Of a Result that is not done all of the Response is zero; of one that is, ID,
// Tick and Counts are. The model, which knows none of them, holds it for each
// call of all tests; here it stands by itself.
func TestWhatAResultDoesNotName(t *testing.T) {
	look := func(what string, r machine.Result) {
		t.Helper()
		x := r.Response
		if x.ID != 0 || x.Tick != 0 || x.Counts != (api.Counts{}) {
			t.Errorf("%s: %+v", what, r)
		}
		if !r.Done && (x.Errno != api.OK || x.Hit || len(x.Data) != 0) {
			t.Errorf("%s is not done: %+v", what, r)
		}
		if x.Errno != api.OK && (x.Hit || len(x.Data) != 0) {
			t.Errorf("%s is refused: %+v", what, r)
		}
	}
	for _, r := range []api.Request{fetch(9), fetch(2), read(2, 0, 4), read(9, 0, 1), read(5, 0, 1), write(2, 0, "x"), write(9, 0, "x"), unpin(2), unpin(9), flush(2), flush(9), all(), discard(2), discard(9), discard(5), stats()} {
		x := hard(t)
		look(fmt.Sprintf("%+v", r), x.m.Begin(r))
		for x.m.Busy() {
			look(fmt.Sprintf("a step of %+v", r), x.m.End(api.OK, []byte(sector(1, 1))))
		}
	}
	for _, s := range steppers() {
		for k := range s.n {
			x := to(t, s.in, s.r, k)
			look(s.name, x.m.End(api.ErrIO, []byte(sector(1, 1))))
		}
	}
}

// R4

// filled is those bytes, with room behind them that has others.
func filled(s string) []byte {
	b := append([]byte(s), "room behind what is handed in"...)
	return b[:len(s)]
}

// wantLeft holds bytes that were handed in, with their room, against what they
// were.
func wantLeft(t *testing.T, what string, b []byte, s string) {
	t.Helper()
	if whole := string(b[:len(s)+29]); whole != s+"room behind what is handed in" {
		t.Errorf("%s: %q", what, whole)
	}
}

func TestWhatIsWrittenIsLeftAndNotKept(t *testing.T) {
	x := hard(t)
	b := filled("abc")
	r := api.Request{Op: api.Write, Page: 2, Off: 4, Data: b}
	x.begin(r)
	wantLeft(t, "Begin", b, "abc")
	if r.Op != api.Write || r.Page != 2 || r.Off != 4 || r.Len != 0 || len(r.Data) != 3 {
		t.Errorf("%+v", r)
	}
	for i := range b[:cap(b)] {
		b[:cap(b)][i] = '!'
	}
	x.look("behind a change of what was written")
}

func TestWhatIsLoadedIsLeftAndNotKept(t *testing.T) {
	x := to(t, empty, fetch(9), 0)
	halves := [][]byte{filled(sector(9, 0)), filled(sector(9, 1))}
	one := halves[0]
	x.m.End(api.OK, one)
	wantLeft(t, "the first load", one, sector(9, 0))
	for i := range one[:cap(one)] {
		one[:cap(one)][i] = '!'
	}
	two := halves[1]
	x.m.End(api.OK, two)
	wantLeft(t, "the second load", two, sector(9, 1))
	for i := range two[:cap(two)] {
		two[:cap(two)][i] = '?'
	}
	if got := string(x.m.Begin(read(9, 0, 32)).Response.Data); got != text(9) {
		t.Errorf("the page is %q", got)
	}
}

// One buffer for both loads, as a program may have it.
func TestOneBufferForBothLoads(t *testing.T) {
	x := made(t, 1)
	x.m.Begin(fetch(9))
	b := make([]byte, 16)
	for k := range 2 {
		copy(b, sector(9, k))
		x.m.End(api.OK, b)
	}
	if got := string(x.m.Begin(read(9, 0, 32)).Response.Data); got != text(9) {
		t.Errorf("the page is %q", got)
	}
}

// spoil fills bytes, and their room, with others.
func spoil(b []byte) {
	b = b[:cap(b)]
	for i := range b {
		b[i] = '!'
	}
}

func TestDataIsNew(t *testing.T) {
	for _, s := range steppers() {
		for k := range s.n {
			x := to(t, s.in, s.r, k)
			first, second := x.m.Data(), x.m.Data()
			was := bytes.Clone(second)
			spoil(first)
			if !bytes.Equal(second, was) {
				t.Errorf("%s, step %d: two answers are one", s.name, k)
			}
			x.look("behind a change of what was told")
			for x.m.Busy() {
				x.ok()
			}
			if !bytes.Equal(second, was) {
				t.Errorf("%s, step %d: what was told is changed", s.name, k)
			}
		}
	}
}

func TestWhatIsReadIsNew(t *testing.T) {
	x := hard(t)
	first := x.m.Begin(read(2, 0, 32)).Response.Data
	second := x.m.Begin(read(2, 0, 32)).Response.Data
	was := bytes.Clone(second)
	spoil(first)
	if x.begin(write(2, 0, strings.Repeat("n", 32))); !bytes.Equal(second, was) {
		t.Errorf("%q, was %q", second, was)
	}
	x.look("behind a change of what was told")
}

// R5

// A long row of requests, of failures and of stops, done twice, tells the same,
// and does the same to the frames.
func TestTheSameCallsTellTheSame(t *testing.T) {
	run := func() string {
		var b strings.Builder
		rnd := rand.New(rand.NewSource(4))
		p, _ := part.New(5)
		m := machine.New(p)
		for range 3000 {
			fmt.Fprintln(&b, m.Begin(anyRequest(rnd, 9)))
			for m.Busy() {
				io, _ := m.Io()
				e := api.Errno(max(0, rnd.Intn(12)-10))
				fmt.Fprintln(&b, io, m.Data(), m.End(e, []byte(sector(io.Page, io.K))))
				if rnd.Intn(30) == 0 {
					m.Stop()
				}
			}
			fmt.Fprintln(&b, p)
		}
		return b.String()
	}
	if run() != run() {
		t.Error("it is not told the same")
	}
}

// The whole

// anyRequest is one of any operation to a page below n. Some are more likely,
// so that pages are pinned, and dirty, often.
func anyRequest(rnd *rand.Rand, n int) api.Request {
	page := rnd.Intn(n)
	switch op := rnd.Intn(14) + 1; op {
	case api.Read:
		off := rnd.Intn(33)
		return read(page, off, rnd.Intn(33-off))
	case api.Write, 9, 10:
		off := rnd.Intn(33)
		return write(page, off, strings.Repeat(string(rune('a'+rnd.Intn(26))), rnd.Intn(33-off)))
	case api.FlushAll:
		return all()
	case api.Stats:
		return stats()
	case 11, 12:
		return fetch(page)
	case 13, 14:
		return unpin(page)
	default:
		return api.Request{Op: op, Page: page}
	}
}

// disk is a device that does at once what it is asked.
type disk map[plan.Io]string

// step does the step that a machine waits for, and ends it.
func (d disk) step(x *both) flat {
	io, _ := x.m.Io()
	at := plan.Io{Page: io.Page, K: io.K}
	switch io.Kind {
	case plan.Store:
		d[at] = string(x.m.Data())
	case plan.Load:
		if b, is := d[at]; is {
			return x.end(api.OK, b)
		}
		return x.end(api.OK, sector(io.Page, io.K))
	}
	return x.end(api.OK, "")
}

// Any row of requests, with steps that fail now and then, is as the model tells.
func TestAnyRowOfRequests(t *testing.T) {
	for seed := range int64(60) {
		rnd := rand.New(rand.NewSource(seed))
		n := 1 + rnd.Intn(6)
		x, d := made(t, n), disk{}
		for range 600 {
			x.begin(anyRequest(rnd, 1+rnd.Intn(2*n+1)))
			for x.m.Busy() {
				switch rnd.Intn(25) {
				case 0:
					x.end(errnos()[rnd.Intn(len(errnos()))], "")
				case 1:
					x.stop()
				default:
					d.step(x)
				}
			}
		}
	}
}

// What is written is read again, however often the page went and came, as long
// as nothing fails and nothing is discarded.
func TestWhatIsWrittenIsReadAgain(t *testing.T) {
	rnd := rand.New(rand.NewSource(8))
	x, d := made(t, 3), disk{}
	do := func(r api.Request) flat {
		got := x.begin(r)
		for x.m.Busy() {
			got = d.step(x)
		}
		return got
	}
	was := map[int]string{}
	for page := range 10 {
		was[page] = text(page)
	}
	for range 3000 {
		page, off := rnd.Intn(10), rnd.Intn(33)
		do(fetch(page))
		if got := do(read(page, 0, 32)); got.data != was[page] {
			t.Fatalf("the page %d is %q, want %q", page, got.data, was[page])
		}
		if s := strings.Repeat(string(rune('a'+rnd.Intn(26))), rnd.Intn(33-off)); rnd.Intn(2) == 0 {
			do(write(page, off, s))
			was[page] = was[page][:off] + s + was[page][off+len(s):]
		}
		do(unpin(page))
		if rnd.Intn(20) == 0 {
			do(all())
		}
	}
}

// FuzzMachine holds a machine against the model: of each byte comes a call.
func FuzzMachine(f *testing.F) {
	f.Add(1, []byte{1, 9, 9, 3, 4, 33, 9, 9, 9, 9})
	f.Add(3, []byte{0, 8, 16, 24, 1, 9, 17, 5, 13, 21, 6, 250, 7})
	f.Add(64, []byte("any bytes, and some more of them"))
	f.Fuzz(func(t *testing.T, n int, b []byte) {
		if n < 1 || n > 64 {
			return
		}
		x := made(t, n)
		for _, c := range b {
			page := int(c>>3) % (n + 2)
			switch {
			case x.m.Busy() && c >= 240:
				x.stop()
			case x.m.Busy() && c >= 220:
				x.end(api.Errno(c), "")
			case x.m.Busy():
				x.ok()
			case c%8 == 2:
				x.begin(read(page, int(c)%33, 0))
			case c%8 == 3:
				x.begin(write(page, int(c)%32, string([]byte{c})))
			case c%8 == 6:
				x.begin(all())
			case c%8 == 0:
				x.begin(stats())
			default:
				x.begin(api.Request{Op: int(c % 8), Page: page})
			}
		}
	})
}
