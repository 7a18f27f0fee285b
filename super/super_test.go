package super_test

import (
	"bytes"
	"encoding/binary"
	"hash/crc32"
	"math"
	"math/rand"
	"slices"
	"strings"
	"testing"

	"allotment/api"
	"allotment/config"
	"allotment/super"
)

// last is the last epoch that may be.
const last = 1 << 30

// part is a part, in the row of its fields.
func part(quota, base, pages int) api.Part {
	return api.Part{Quota: quota, Base: base, Pages: pages}
}

// plain is the configuration of the example, new at each call.
func plain() api.Config {
	return api.Config{Frames: 3, Depth: 2, Sectors: 8, Parts: []api.Part{part(1, 0, 2), part(2, 4, 2)}}
}

// three is a configuration of which no two numbers are the same, so that none
// of them can stand in another one's place.
func three() api.Config {
	return api.Config{Frames: 21, Depth: 8, Sectors: 100, Parts: []api.Part{part(12, 45, 14), part(2, 30, 6), part(7, 5, 9)}}
}

// many is a configuration of n parts of one frame and one page.
func many(n int) api.Config {
	c := api.Config{Frames: n, Depth: 1, Sectors: api.MaxSectors}
	for i := range n {
		c.Parts = append(c.Parts, part(1, 2*i, 1))
	}
	return c
}

// of is a superblock.
func of(epoch int, c api.Config) super.Super { return super.Super{Epoch: epoch, Config: c} }

// with is c, with a list of its own, changed by f.
func with(c api.Config, f func(c *api.Config)) api.Config {
	c.Parts = slices.Clone(c.Parts)
	f(&c)
	return c
}

// far are numbers that are far from all limits, such among them as are right
// ones if some of their bits are not looked at.
func far() []int {
	return []int{-1, -2, -64, -1 << 31, -1 << 32, -1 << 62, math.MinInt, math.MinInt + 1, math.MinInt + 2,
		last + 1, last + 2, 1 << 31, 1<<31 + 1, 1<<32 + 1, 1<<32 + 2, 1<<33 + 3, 1<<40 + 1, 1<<56 + 2, 1 << 62, 1<<62 + 1, math.MaxInt - 1, math.MaxInt}
}

// laid are numbers' bytes, by the library.
func laid(l ...int) []byte {
	var b []byte
	for _, n := range l {
		b = binary.LittleEndian.AppendUint64(b, uint64(n))
	}
	return b
}

// put is bytes with their check behind them, by the library.
func put(b []byte) []byte {
	return binary.LittleEndian.AppendUint32(slices.Clone(b), crc32.ChecksumIEEE(b))
}

// row are the numbers of which a superblock's bytes are made.
func row(s super.Super) []int {
	l := []int{1, s.Epoch, s.Frames, s.Depth, s.Sectors, len(s.Parts)}
	for _, p := range s.Parts {
		l = append(l, p.Quota, p.Base, p.Pages)
	}
	return l
}

// written are the bytes that a superblock has, or would have if it might be.
func written(s super.Super) []byte { return put(laid(row(s)...)) }

// may says whether a superblock may be, by the chapter's words.
func may(s super.Super) bool {
	where, _ := config.Check(s.Config)
	return s.Epoch > 0 && s.Epoch < last+1 && where == ""
}

// alike holds two superblocks against each other field by field.
func alike(a, b super.Super) bool {
	return a.Epoch == b.Epoch && a.Frames == b.Frames && a.Depth == b.Depth && a.Sectors == b.Sectors && slices.Equal(a.Parts, b.Parts)
}

// told is what Read must tell of bytes: it goes by all the numbers at once.
func told(b []byte) (super.Super, api.Errno) {
	n := len(b) - 4
	if n < 0 {
		return super.Super{}, api.ErrForm
	}
	if !bytes.Equal(put(b[:n]), b) {
		return super.Super{}, api.ErrIO
	}
	var l []int
	for ; len(b) >= 12; b = b[8:] {
		l = append(l, int(binary.LittleEndian.Uint64(b)))
	}
	if n%8 != 0 || len(l) < 6 || l[0] != 1 || len(l)%3 != 0 || l[5] != len(l)/3-2 {
		return super.Super{}, api.ErrForm
	}
	s := of(l[1], api.Config{Frames: l[2], Depth: l[3], Sectors: l[4]})
	for l = l[6:]; len(l) > 0; l = l[3:] {
		s.Parts = append(s.Parts, part(l[0], l[1], l[2]))
	}
	if !may(s) {
		return super.Super{}, api.ErrForm
	}
	return s, api.OK
}

// wantRead holds Read against what it should tell.
func wantRead(t *testing.T, b []byte, s super.Super, errno api.Errno) {
	t.Helper()
	if got, e := super.Read(b); e != errno || !alike(got, s) {
		t.Errorf("Read(%v): %v, %d; want %v, %d", b, got, e, s, errno)
	}
}

// wantNone holds Read against an error.
func wantNone(t *testing.T, b []byte, errno api.Errno) {
	t.Helper()
	wantRead(t, b, super.Super{}, errno)
}

// wantMay holds May and Write of a superblock, and Read of its bytes, against
// whether it may be.
func wantMay(t *testing.T, s super.Super, is bool) {
	t.Helper()
	if got := super.May(s); got != is {
		t.Errorf("May(%v): %v", s, got)
	}
	b, e := super.Write(s)
	if !is {
		if e != api.ErrConfig || len(b) != 0 {
			t.Errorf("Write(%v): %v, %d", s, b, e)
		}
		wantNone(t, written(s), api.ErrForm)
		return
	}
	if e != api.OK || !bytes.Equal(b, written(s)) {
		t.Errorf("Write(%v): %v, %d; want %v", s, b, e, written(s))
	}
	wantRead(t, written(s), s, api.OK)
}

// draw is a superblock by chance that may be.
func draw(rnd *rand.Rand) super.Super {
	s := of(1+rnd.Intn(last), api.Config{Depth: 1 + rnd.Intn(8)})
	for range 1 + rnd.Intn(16) {
		s.Sectors += rnd.Intn(3)
		p := part(1+rnd.Intn(4), s.Sectors, 1+rnd.Intn(24))
		s.Parts, s.Frames, s.Sectors = append(s.Parts, p), s.Frames+p.Quota, s.Sectors+2*p.Pages
	}
	s.Sectors += rnd.Intn(3)
	rnd.Shuffle(len(s.Parts), func(i, j int) { s.Parts[i], s.Parts[j] = s.Parts[j], s.Parts[i] })
	return s
}

// some are superblocks that may be.
func some() []super.Super {
	l := []super.Super{of(1, plain()), of(7, three()), of(last, plain()), of(last-1, three()), of(2, many(1)), of(3, many(16)),
		of(1, api.Config{Frames: 1, Depth: 1, Sectors: 2, Parts: []api.Part{part(1, 0, 1)}}),
		of(last, api.Config{Frames: 64, Depth: 8, Sectors: 1024, Parts: []api.Part{part(64, 896, 64)}})}
	rnd := rand.New(rand.NewSource(61))
	for range 40 {
		l = append(l, draw(rnd))
	}
	return l
}

// bad are superblocks that may not be, whose epochs or configurations are not
// right.
func bad() []super.Super {
	l := []super.Super{{}, of(1, api.Config{}), of(0, plain()), of(last+1, plain()), of(-1, three()), of(0, api.Config{}), of(1, many(17)), of(1, many(40))}
	for _, c := range wrong() {
		l = append(l, of(1, c), of(0, c), of(last, c))
	}
	return l
}

// wrong are configurations that may not be, one at least of each row of
// chapter 5's table.
func wrong() []api.Config {
	var l []api.Config
	for _, f := range []func(c *api.Config){
		func(c *api.Config) { c.Parts = nil },
		func(c *api.Config) { c.Parts = []api.Part{} },
		func(c *api.Config) { c.Parts = many(17).Parts },
		func(c *api.Config) { c.Frames = 0 },
		func(c *api.Config) { c.Frames = 65 },
		func(c *api.Config) { c.Depth = 0 },
		func(c *api.Config) { c.Depth = 9 },
		func(c *api.Config) { c.Sectors = 0 },
		func(c *api.Config) { c.Sectors = 1025 },
		func(c *api.Config) { c.Parts[1].Quota = 0 },
		func(c *api.Config) { c.Parts[1].Quota = 65 },
		func(c *api.Config) { c.Parts[1].Pages = 0 },
		func(c *api.Config) { c.Parts[1].Pages = 65 },
		func(c *api.Config) { c.Parts[1].Base = -1 },
		func(c *api.Config) { c.Parts[1].Base = 99 },
		func(c *api.Config) { c.Parts[1].Base = c.Parts[0].Base },
		func(c *api.Config) { c.Frames++ },
		func(c *api.Config) { c.Frames-- },
	} {
		l = append(l, with(three(), f))
	}
	return l
}

// P6.1

func TestExample(t *testing.T) {
	s := of(1, plain())
	wantMay(t, s, true)
	number := func(n byte) string { return string([]byte{n}) + strings.Repeat("\x00", 7) }
	want := ""
	for _, n := range []byte{1, 1, 3, 2, 8, 2, 1, 0, 2, 2, 4, 2} {
		want += number(n)
	}
	want += "\x9f\x91\xc6\x42"
	if b, e := super.Write(s); string(b) != want || len(b) != 100 || e != api.OK {
		t.Errorf("Write(%v): %q, %d", s, b, e)
	}
	wantRead(t, []byte(want), s, api.OK)
}

// A superblock is asked for its configuration's fields as its own.
func TestFieldsAreItsOwn(t *testing.T) {
	s := of(9, three())
	if s.Frames != 21 || s.Depth != 8 || s.Sectors != 100 || len(s.Parts) != 3 || s.Parts[2] != part(7, 5, 9) || !config.Same(s.Config, three()) {
		t.Errorf("%v", s)
	}
	got, e := super.Read(written(s))
	if e != api.OK || got.Epoch != 9 || got.Frames != 21 || got.Depth != 8 || got.Sectors != 100 || len(got.Parts) != 3 ||
		got.Parts[0] != part(12, 45, 14) || got.Parts[1] != part(2, 30, 6) || got.Parts[2] != part(7, 5, 9) {
		t.Errorf("%v, %d", got, e)
	}
}

func TestSuperblocksThatMayBe(t *testing.T) {
	for _, s := range some() {
		wantMay(t, s, true)
	}
}

func TestSuperblocksThatMayNotBe(t *testing.T) {
	for _, s := range bad() {
		wantMay(t, s, false)
	}
}

func TestEpochAtItsEdges(t *testing.T) {
	for _, c := range []api.Config{plain(), three(), many(16)} {
		for _, epoch := range []int{1, 2, 255, 256, 1 << 16, 1<<29 + 1, last - 1, last} {
			wantMay(t, of(epoch, c), true)
		}
		for _, epoch := range append(far(), 0) {
			wantMay(t, of(epoch, c), false)
		}
	}
}

func TestHowManyParts(t *testing.T) {
	for n := range 40 {
		s := of(5, many(n))
		wantMay(t, s, n >= 1 && n <= 16)
		if b, _ := super.Write(s); len(b) > 0 && len(b) != 52+24*n {
			t.Errorf("%d parts: %d bytes", n, len(b))
		}
	}
}

// Each number is the number of its field, and of no other one: if it alone is
// another one, just what hangs on it is told.
func TestEachNumber(t *testing.T) {
	for _, s := range []super.Super{of(1, plain()), of(29, three()), of(last, many(16)), of(2, many(1))} {
		for i := range row(s) {
			for _, n := range append(far(), 0, 1, 2, 3, 4, 8, 9, 13, 14, 16, 17, 21, 64, 65, 100, 1000, 1024, 1025, last) {
				l := row(s)
				l[i] = n
				want, e := told(put(laid(l...)))
				wantRead(t, put(laid(l...)), want, e)
			}
		}
	}
}

// Of each field all numbers that are right are read as they are.
func TestEachFieldIsRead(t *testing.T) {
	for n := 1; n <= 64; n++ {
		one := of(n, api.Config{Frames: n, Depth: 1 + n%8, Sectors: 1024 - n, Parts: []api.Part{part(n, 14*n, n)}})
		one.Parts[0].Base = min(14*n, one.Sectors-2*n)
		wantMay(t, one, true)
	}
}

func TestFirstNumber(t *testing.T) {
	for _, s := range []super.Super{of(1, plain()), of(7, three()), of(last, many(16))} {
		for _, first := range append(far(), 0, 2, 3, 7, 255, 256, 257, 1<<16+1) {
			l := row(s)
			l[0] = first
			wantNone(t, put(laid(l...)), api.ErrForm)
		}
		wantNone(t, put(laid(row(s)[1:]...)), api.ErrForm)
		wantNone(t, put(laid(append([]int{1}, row(s)...)...)), api.ErrForm)
	}
}

// How many parts there are is said by a number, and by the bytes: both must
// say the same. Of a number that is far beyond the reading ends at once.
func TestNumberOfParts(t *testing.T) {
	for there := range 19 {
		for _, said := range append(far(), 0, 1, 2, 3, 15, 16, 17, 18, 1000) {
			s := of(1, many(there))
			l := row(s)
			l[5] = said
			if said == there && there >= 1 && there <= 16 {
				wantRead(t, put(laid(l...)), s, api.OK)
			} else {
				wantNone(t, put(laid(l...)), api.ErrForm)
			}
		}
	}
	wantNone(t, put(laid(1, 7, 3, 2, 9, -1)), api.ErrForm)
	wantNone(t, put(laid(1, 7, 3, 2, 9, math.MaxInt)), api.ErrForm)
	wantNone(t, put(laid(row(of(1, many(5000)))...)), api.ErrForm)
}

// Cut off anywhere, at the end or at the beginning, bytes do not have their
// check any more.
func TestBytesAreCutOff(t *testing.T) {
	for _, s := range []super.Super{of(1, plain()), of(7, three()), of(last, many(16))} {
		b := written(s)
		for n := range len(b) {
			want := api.ErrIO
			if n < 4 {
				want = api.ErrForm
			}
			wantNone(t, b[:n], want)
			wantNone(t, b[len(b)-n:], want)
		}
	}
	wantNone(t, nil, api.ErrForm)
	wantNone(t, []byte{}, api.ErrForm)
}

// Numbers that are cut off anywhere, and have their check: they are not a
// superblock's.
func TestNumbersAreCutOff(t *testing.T) {
	for _, s := range []super.Super{of(1, plain()), of(7, three()), of(last, many(16)), of(1, many(1))} {
		b := laid(row(s)...)
		for n := range len(b) {
			wantNone(t, put(b[:n]), api.ErrForm)
			wantNone(t, put(b[len(b)-n:]), api.ErrForm)
			wantNone(t, put(slices.Concat(b[:n], b[n+1:])), api.ErrForm)
		}
	}
}

func TestMoreBytes(t *testing.T) {
	for _, s := range []super.Super{of(1, plain()), of(7, three()), of(last, many(16))} {
		b := laid(row(s)...)
		for n := 1; n <= 50; n++ {
			for _, x := range []byte{0, 1, 255} {
				more := bytes.Repeat([]byte{x}, n)
				wantNone(t, put(slices.Concat(b, more)), api.ErrForm)
				want, e := told(slices.Concat(put(b), more))
				wantRead(t, slices.Concat(put(b), more), want, e)
			}
		}
		for x := range 256 {
			wantNone(t, put(append(slices.Clone(b), byte(x))), api.ErrForm)
			wantNone(t, append(put(b), byte(x)), api.ErrIO)
		}
		wantNone(t, put(slices.Concat(b, b)), api.ErrForm)
		wantNone(t, put(put(b)), api.ErrForm)
	}
}

// Chapter 2's errors come first: bytes that have no check and are no
// superblock's, either.
func TestChecksErrorsFirst(t *testing.T) {
	for _, s := range append(bad(), some()...) {
		b := written(s)
		b[len(b)-1] ^= 1
		wantNone(t, b, api.ErrIO)
		wantNone(t, b[:3], api.ErrForm)
		wantNone(t, laid(row(s)...), api.ErrIO)
	}
	wantNone(t, []byte("abc"), api.ErrForm)
	wantNone(t, []byte("abcd"), api.ErrIO)
	wantNone(t, make([]byte, 3), api.ErrForm)
	wantNone(t, make([]byte, 4), api.ErrForm) // the check of no bytes
	wantNone(t, make([]byte, 5), api.ErrIO)
	wantNone(t, make([]byte, 100), api.ErrIO)
	wantNone(t, put(make([]byte, 96)), api.ErrForm)
}

// Bytes of another form that say the same.
func TestOtherForms(t *testing.T) {
	s := of(1, plain())
	var highest, short []byte
	for _, n := range row(s) {
		highest = binary.BigEndian.AppendUint64(highest, uint64(n))
		short = binary.LittleEndian.AppendUint32(short, uint32(n))
	}
	wantNone(t, put(highest), api.ErrForm)
	wantNone(t, put(short), api.ErrForm)
	b := laid(row(s)...)
	wantNone(t, binary.BigEndian.AppendUint32(slices.Clone(b), crc32.ChecksumIEEE(b)), api.ErrIO)
	wantNone(t, put(laid(1, 3, 2, 8, 1, 2, 1, 0, 2, 2, 4, 2)), api.ErrForm) // the epoch behind
	wantNone(t, put(laid(1, 1, 3, 2, 8, 1, 0, 2, 2, 4, 2)), api.ErrForm)    // not how many parts
}

func TestReadByChance(t *testing.T) {
	rnd := rand.New(rand.NewSource(62))
	all, met := far(), map[api.Errno]int{}
	for range 20000 {
		l := row(draw(rnd))
		switch rnd.Intn(4) {
		case 0:
			l[rnd.Intn(len(l))] += rnd.Intn(3) - 1
		case 1:
			l[rnd.Intn(len(l))] = all[rnd.Intn(len(all))]
		case 2:
			l = l[:rnd.Intn(len(l)+1)]
		}
		b := put(laid(l...))
		if rnd.Intn(4) == 0 {
			b[rnd.Intn(len(b))] ^= byte(1 + rnd.Intn(255))
		}
		s, e := told(b)
		met[e]++
		wantRead(t, b, s, e)
	}
	for _, e := range []api.Errno{api.OK, api.ErrForm, api.ErrIO} {
		if met[e] < 1000 {
			t.Errorf("%d was met %d times", e, met[e])
		}
	}
}

// P6.2

func TestNext(t *testing.T) {
	for _, s := range some() {
		if s.Epoch == last {
			continue
		}
		got, e := super.Next(s)
		if want := of(s.Epoch+1, s.Config); e != api.OK || !alike(got, want) {
			t.Errorf("Next(%v): %v, %d", s, got, e)
		}
		wantMay(t, got, true)
	}
}

func TestNextAtTheLastEpoch(t *testing.T) {
	for _, c := range []api.Config{plain(), three(), many(1), many(16)} {
		if got, e := super.Next(of(last-2, c)); e != api.OK || !alike(got, of(last-1, c)) {
			t.Errorf("two ahead of the last one: %v, %d", got, e)
		}
		got, e := super.Next(of(last-1, c))
		if e != api.OK || !alike(got, of(last, c)) {
			t.Errorf("one ahead of the last one: %v, %d", got, e)
		}
		if got, e := super.Next(got); e != api.ErrFull || !alike(got, super.Super{}) {
			t.Errorf("at the last one: %v, %d", got, e)
		}
	}
}

// Next is told of superblocks that may be; of others it ends, and does not go
// round.
func TestNextBeyondTheLastEpoch(t *testing.T) {
	for _, epoch := range []int{last + 1, math.MaxInt - 1, math.MaxInt} {
		if got, e := super.Next(of(epoch, plain())); e != api.ErrFull || !alike(got, super.Super{}) {
			t.Errorf("Next at %d: %v, %d", epoch, got, e)
		}
	}
}

func TestNextOneByOne(t *testing.T) {
	s := of(1, three())
	for epoch := 2; epoch < 300; epoch++ {
		next, e := super.Next(s)
		if e != api.OK || !alike(next, of(epoch, three())) {
			t.Fatalf("Next(%v): %v, %d", s, next, e)
		}
		b, _ := super.Write(next)
		if s, e = super.Read(b); e != api.OK {
			t.Fatalf("%v is not read: %d", next, e)
		}
	}
}

func TestNextHasAListOfItsOwn(t *testing.T) {
	for _, s := range some() {
		if s.Epoch == last {
			continue
		}
		for _, room := range []int{0, 1, 9} {
			own, want := roomy(s, room), of(s.Epoch+1, s.Config)
			whole := slices.Clone(own.Parts[:cap(own.Parts)])
			first, _ := super.Next(own)
			second, _ := super.Next(own)
			turn(first.Parts)
			_ = append(first.Parts, part(1, 2, 3))
			if !slices.Equal(own.Parts[:cap(own.Parts)], whole) || !alike(second, want) {
				t.Fatalf("what was done to the next one of %v came to it, or to another one", s)
			}
			turn(own.Parts)
			if !alike(second, want) {
				t.Fatalf("what was done to %v came to its next one", s)
			}
		}
	}
}

// numbers are all the fields of a superblock.
func numbers(s *super.Super) []*int {
	l := []*int{&s.Epoch, &s.Frames, &s.Depth, &s.Sectors}
	for k := range s.Parts {
		p := &s.Parts[k]
		l = append(l, &p.Quota, &p.Base, &p.Pages)
	}
	return l
}

// Each field that differs is told, whichever of the two is handed in first.
func TestSameTellsEachField(t *testing.T) {
	for _, s := range []super.Super{of(1, plain()), of(last, three()), of(4, many(16)), of(0, many(17)), {}} {
		for i := range numbers(&s) {
			for _, by := range []int{1, -1, 256, 1 << 30, 1 << 32, math.MinInt} {
				other := of(s.Epoch, config.Clone(s.Config))
				*numbers(&other)[i] += by
				if super.Same(s, other) || super.Same(other, s) {
					t.Errorf("the same: %v, %v", s, other)
				}
				*numbers(&other)[i] -= by
				if !super.Same(s, other) || !super.Same(other, s) {
					t.Errorf("not the same: %v, %v", s, other)
				}
			}
		}
	}
}

func TestSameTellsTheParts(t *testing.T) {
	for _, s := range append(some(), bad()...) {
		more := of(s.Epoch, with(s.Config, func(c *api.Config) { c.Parts = append(c.Parts, api.Part{}) }))
		if super.Same(s, more) || super.Same(more, s) {
			t.Errorf("the same: %v, %v", s, more)
		}
	}
	turned := of(1, with(three(), func(c *api.Config) { slices.Reverse(c.Parts) }))
	if super.Same(of(1, three()), turned) || super.Same(turned, of(1, three())) {
		t.Error("the row of the parts is not told")
	}
}

func TestSameOfAll(t *testing.T) {
	l := append(some(), bad()...)
	for _, a := range l {
		for _, b := range l {
			if got := super.Same(a, b); got != alike(a, b) {
				t.Errorf("Same(%v, %v): %v", a, b, got)
			}
		}
		if !super.Same(a, a) || !super.Same(a, roomy(a, 3)) || !super.Same(roomy(a, 5), a) {
			t.Errorf("%v is not the same as itself", a)
		}
	}
}

// P6.3

func TestWhatIsWrittenIsRead(t *testing.T) {
	rnd := rand.New(rand.NewSource(63))
	l := some()
	for range 3000 {
		l = append(l, draw(rnd))
	}
	for _, s := range l {
		b, e := super.Write(s)
		if e != api.OK {
			t.Fatalf("Write(%v): %d", s, e)
		}
		got, e := super.Read(b)
		if e != api.OK || !alike(got, s) || !super.Same(got, s) {
			t.Fatalf("%v is read as %v, %d", s, got, e)
		}
		if again, e := super.Write(got); e != api.OK || !bytes.Equal(again, b) {
			t.Fatalf("%v is written as %v, and then as %v", s, b, again)
		}
	}
}

func TestOneByteIsAnotherOne(t *testing.T) {
	for _, s := range []super.Super{of(1, plain()), of(last, three()), of(9, many(1)), of(77, many(16))} {
		b, _ := super.Write(s)
		for i := range b {
			was := b[i]
			for x := range 256 {
				if b[i] = byte(x); b[i] == was {
					continue
				}
				if got, e := super.Read(b); e != api.ErrIO || !alike(got, super.Super{}) {
					t.Fatalf("%v, the byte %d as %d: %v, %d", s, i, x, got, e)
				}
			}
			b[i] = was
		}
		wantRead(t, b, s, api.OK)
	}
}

// R2 and R4

// roomy is s, its list with spare room, in which other parts stand.
func roomy(s super.Super, room int) super.Super {
	whole := append(slices.Clone(s.Parts), slices.Repeat([]api.Part{part(7, 8, 9)}, room)...)
	s.Parts = whole[:len(s.Parts):len(whole)]
	return s
}

// turn makes all parts of a list others, and those of all of its room.
func turn(l []api.Part) {
	l = l[:cap(l)]
	for i := range l {
		l[i].Quota, l[i].Base, l[i].Pages = ^l[i].Quota, ^l[i].Base, ^l[i].Pages
	}
}

// spacious are bytes with spare room behind them, which holds the byte x.
func spacious(b []byte, room int, x byte) []byte {
	whole := append(slices.Clone(b), bytes.Repeat([]byte{x}, room)...)
	return whole[:len(b):len(whole)]
}

// fill writes into bytes and all of their room.
func fill(b []byte, x byte) {
	b = b[:cap(b)]
	for i := range b {
		b[i] = x
	}
}

// Beside an error there is nothing but it.
func TestBesideAnError(t *testing.T) {
	for _, s := range bad() {
		if b, e := super.Write(roomy(s, 3)); e != api.ErrConfig || len(b) != 0 {
			t.Errorf("Write(%v): %v, %d", s, b, e)
		}
	}
	whole := put(laid(row(of(7, three()))...))
	for _, b := range [][]byte{nil, whole[:3], whole[:50], put(append(laid(row(of(7, three()))...), 0)), written(of(0, three())), written(of(7, wrong()[0]))} {
		got, e := super.Read(b)
		if e == api.OK || got.Epoch != 0 || got.Frames != 0 || got.Depth != 0 || got.Sectors != 0 || len(got.Parts) != 0 {
			t.Errorf("Read(%v): %v, %d", b, got, e)
		}
	}
	if got, e := super.Next(of(last, three())); e != api.ErrFull || got.Epoch != 0 || got.Frames != 0 || got.Depth != 0 || got.Sectors != 0 || len(got.Parts) != 0 {
		t.Errorf("Next at the last epoch: %v, %d", got, e)
	}
}

func TestSuperblocksAreNotChanged(t *testing.T) {
	for _, s := range append(some(), bad()...) {
		for _, room := range []int{0, 1, 20} {
			own := roomy(s, room)
			whole := slices.Clone(own.Parts[:cap(own.Parts)])
			super.May(own)
			super.Write(own)
			super.Next(own)
			super.Same(own, of(1, plain()))
			super.Same(of(1, plain()), own)
			super.Same(own, own)
			if !alike(own, s) || !slices.Equal(own.Parts[:cap(own.Parts)], whole) {
				t.Fatalf("%v became %v", s, own)
			}
		}
	}
}

func TestBytesAreNotChanged(t *testing.T) {
	whole := written(of(7, three()))
	for _, b := range [][]byte{{}, whole[:3], whole[:50], whole, put(whole), written(of(0, three())), written(of(1, many(16)))} {
		for _, room := range []int{0, 1, 4, 40} {
			own := spacious(b, room, 'r')
			super.Read(own)
			if !bytes.Equal(own[:cap(own)], slices.Concat(b, bytes.Repeat([]byte{'r'}, room))) {
				t.Fatalf("%v became %v", b, own[:cap(own)])
			}
		}
	}
}

// What is told hangs on what is handed in now, and not on its spare room or
// on what it was ahead.
func TestWhatIsHandedInIsNotKept(t *testing.T) {
	own := roomy(of(1, plain()), 2)
	wantMay(t, own, true)
	own.Parts[1].Base = 3
	wantMay(t, own, false)
	own.Parts[1].Base = 4
	wantMay(t, own, true)
	for _, s := range append(some(), bad()...) {
		wantMay(t, roomy(s, 17), may(s))
	}
	b := written(of(1, plain()))
	wantNone(t, b[:99], api.ErrIO) // the last byte is in the room alone
	wantNone(t, b[:0], api.ErrForm)
	wantRead(t, spacious(b, 30, 1), of(1, plain()), api.OK)
}

func TestWrittenBytesAreNewMemory(t *testing.T) {
	for _, s := range some() {
		own := roomy(s, 4)
		first, _ := super.Write(own)
		second, _ := super.Write(own)
		turn(own.Parts)
		if !bytes.Equal(first, written(s)) || !bytes.Equal(second, written(s)) {
			t.Fatalf("what was done to %v came to its bytes", s)
		}
		fill(first, 'Y')
		if !bytes.Equal(second, written(s)) {
			t.Fatalf("%v: one memory is told twice", s)
		}
		if again, _ := super.Write(s); !bytes.Equal(again, written(s)) {
			t.Fatalf("%v is written as %v behind that", s, again)
		}
	}
}

func TestWhatIsReadIsNewMemory(t *testing.T) {
	for _, s := range some() {
		own := spacious(written(s), 8, 'r')
		first, _ := super.Read(own)
		second, _ := super.Read(own)
		fill(own, 'X')
		if !alike(first, s) || !alike(second, s) {
			t.Fatalf("what was done to the bytes of %v came to what was read", s)
		}
		turn(first.Parts)
		if !alike(second, s) || !bytes.Equal(own[:cap(own)], bytes.Repeat([]byte{'X'}, cap(own))) {
			t.Fatalf("%v: one memory is told twice", s)
		}
		wantRead(t, written(s), s, api.OK)
	}
}

func TestNilAndEmptyAreOne(t *testing.T) {
	lists := [][]api.Part{nil, {}, make([]api.Part, 0, 3), plain().Parts[:0]}
	for _, epoch := range []int{0, 1, last} {
		for _, a := range lists {
			for _, b := range lists {
				one := of(epoch, api.Config{Frames: 1, Depth: 1, Sectors: 2, Parts: a})
				other := of(epoch, api.Config{Frames: 1, Depth: 1, Sectors: 2, Parts: b})
				if !super.Same(one, other) {
					t.Errorf("%#v and %#v are two", one, other)
				}
			}
			wantMay(t, of(epoch, api.Config{Frames: 1, Depth: 1, Sectors: 2, Parts: a}), false)
		}
	}
	for _, b := range [][]byte{nil, {}, make([]byte, 0, 100), written(of(1, plain()))[:0]} {
		wantNone(t, b, api.ErrForm)
	}
}

// FuzzRead holds Read against the chapter's words, of bytes as they are and
// with a check behind them, and what follows from it.
func FuzzRead(f *testing.F) {
	f.Add(laid(row(of(1, plain()))...))
	f.Add(laid(row(of(last, three()))...))
	f.Add(laid(row(of(7, many(16)))...))
	f.Add(laid(1, 7, 3, 2, 9, -1))
	f.Add(written(of(1, many(1))))
	f.Add([]byte("abc"))
	f.Fuzz(func(t *testing.T, raw []byte) {
		for _, b := range [][]byte{raw, put(raw)} {
			want, errno := told(b)
			s, e := super.Read(b)
			if e != errno || !alike(s, want) {
				t.Fatalf("Read(%v): %v, %d; want %v, %d", b, s, e, want, errno)
			}
			if e != api.OK {
				continue
			}
			if again, e := super.Write(s); e != api.OK || !bytes.Equal(again, b) || !super.May(s) {
				t.Fatalf("%v is read as %v, and written as %v", b, s, again)
			}
		}
	})
}
