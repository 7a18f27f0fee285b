package fifo_test

import (
	"bytes"
	"math"
	"math/rand"
	"runtime"
	"slices"
	"strconv"
	"testing"
	"weak"

	"allotment/api"
	"allotment/fifo"
)

// page is a thing of several fields, big enough to have a memory of its own.
type page struct {
	at    int
	name  string
	bytes [32]byte
}

// wrong are numbers that are no bound, such too as are one if some bits are
// not looked at.
func wrong() []int {
	l := []int{-1 << 31, -1 << 32, -1<<32 + 1, -1<<32 + 1000, -1 << 62, math.MinInt, math.MinInt + 1, math.MinInt + 1000,
		1 << 16, 1<<16 + 1, 1 << 31, 1<<31 - 1, 1 << 32, 1<<32 + 1, 1<<32 + 1000, 1<<56 + 2, 1 << 62, 1<<62 + 1, math.MaxInt - 1, math.MaxInt}
	for n := range 2000 {
		l = append(l, -n, 1001+n)
	}
	return l
}

// bounds are the edges of what may be a bound, and some between them.
func bounds() []int { return []int{1, 2, 3, 4, 5, 7, 8, 9, 63, 64, 65, 999, 1000} }

// pair is a queue beside what it should be: all things that were ever put and
// are not refused or cleared, and how many of them are taken. Each call is made
// of both, and what is told is held against each other.
type pair[T comparable] struct {
	t     *testing.T
	q     *fifo.Queue[T]
	most  int
	put   []T
	taken int
}

// made is a new queue beside its model.
func made[T comparable](t *testing.T, most int) *pair[T] {
	t.Helper()
	q, e := fifo.New[T](most)
	if q == nil || e != api.OK {
		t.Fatalf("New(%d): %v, %d", most, q, e)
	}
	return &pair[T]{t: t, q: q, most: most}
}

// waits are the things that should be there.
func (p *pair[T]) waits() []T { return p.put[p.taken:] }

// first is what First and Take should tell.
func (p *pair[T]) first() (T, bool) {
	for _, x := range p.waits() {
		return x, true
	}
	return *new(T), false
}

func (p *pair[T]) putOne(x T) {
	p.t.Helper()
	want := api.ErrBusy
	if len(p.waits()) < p.most {
		want = api.OK
		p.put = append(p.put, x)
	}
	if e := p.q.Put(x); e != want {
		p.t.Errorf("Put(%v): %d, want %d", x, e, want)
	}
}

func (p *pair[T]) takeOne() {
	p.t.Helper()
	want, there := p.first()
	if there {
		p.taken++
	}
	if x, is := p.q.Take(); x != want || is != there {
		p.t.Errorf("Take: %v, %t; want %v, %t", x, is, want, there)
	}
}

func (p *pair[T]) clear() {
	p.put, p.taken = nil, 0
	p.q.Clear()
}

// hold holds all that a queue tells against what it should tell.
func (p *pair[T]) hold() {
	p.t.Helper()
	l := p.waits()
	if n := p.q.Len(); n != len(l) {
		p.t.Errorf("Len: %d, want %d", n, len(l))
	}
	if full := p.q.Full(); full != (len(l) == p.most) {
		p.t.Errorf("Full: %t of %d things, the bound %d", full, len(l), p.most)
	}
	want, there := p.first()
	if x, is := p.q.First(); x != want || is != there {
		p.t.Errorf("First: %v, %t; want %v, %t", x, is, want, there)
	}
	if all := p.q.All(); !slices.Equal(all, l) {
		p.t.Errorf("All: %v, want %v", all, l)
	}
}

// putAll puts things one behind the other, and holds behind each.
func (p *pair[T]) putAll(l ...T) {
	p.t.Helper()
	for _, x := range l {
		p.putOne(x)
		p.hold()
	}
}

// takeAll takes until there are none, and twice more, and holds behind each.
func (p *pair[T]) takeAll() {
	p.t.Helper()
	for range len(p.waits()) + 2 {
		p.takeOne()
		p.hold()
	}
}

// row are n numbers that are not 0, from first on.
func row(first, n int) []int {
	var l []int
	for i := range n {
		l = append(l, first+i)
	}
	return l
}

// filled is a queue of numbers with n things, which stand at the end of many
// that went through ahead of them.
func filled(t *testing.T, most, n, through int) *pair[int] {
	t.Helper()
	p := made[int](t, most)
	for i := range through {
		p.putOne(-1 - i)
		p.takeOne()
	}
	for _, x := range row(1, n) {
		p.putOne(x)
	}
	p.hold()
	return p
}

// lived are how many things a queue of a bound has at its edges.
func lived(most int) []int {
	l := []int{0, 1, most / 2, most - 1, most}
	slices.Sort(l)
	return slices.Compact(l)
}

// P10.1

func TestNewOfAllBounds(t *testing.T) {
	for most := 1; most <= 1000; most++ {
		p := made[int](t, most)
		p.hold()
		for _, x := range row(1, most) {
			if p.q.Full() {
				t.Fatalf("the bound %d: full with %d things", most, p.q.Len())
			}
			p.putOne(x)
		}
		p.hold()
		p.putOne(most + 1)
		p.hold()
	}
}

func TestNewOfWrongBounds(t *testing.T) {
	for _, most := range wrong() {
		if q, e := fifo.New[int](most); q != nil || e != api.ErrArg {
			t.Errorf("New(%d) of numbers: %v, %d", most, q, e)
		}
		if q, e := fifo.New[*page](most); q != nil || e != api.ErrArg {
			t.Errorf("New(%d) of pointers: %v, %d", most, q, e)
		}
	}
}

func TestTheExample(t *testing.T) {
	q, e := fifo.New[int](2)
	if q == nil || e != api.OK {
		t.Fatal(q, e)
	}
	for i, want := range []api.Errno{api.OK, api.OK, api.ErrBusy} {
		if e := q.Put(i + 1); e != want {
			t.Errorf("Put(%d): %d, want %d", i+1, e, want)
		}
	}
	if x, is := q.Take(); x != 1 || !is {
		t.Errorf("Take: %d, %t", x, is)
	}
}

func TestBoundOfOne(t *testing.T) {
	p := made[string](t, 1)
	p.takeOne()
	p.hold()
	for i := range 10 {
		p.putAll("x"+strconv.Itoa(i), "refused", "refused too")
		p.takeAll()
	}
	p.putAll("last")
	p.clear()
	p.hold()
	p.putAll("behind", "refused")
	p.takeAll()
}

func TestPutIsTheLastOne(t *testing.T) {
	for _, most := range bounds() {
		p := made[int](t, most)
		for i := range min(most, 70) {
			p.putOne(i + 1)
			p.hold()
			all := p.q.All()
			if len(all) != i+1 || all[i] != i+1 || all[0] != 1 {
				t.Fatalf("the bound %d: Put(%d) leaves %v", most, i+1, all)
			}
		}
	}
}

func TestPutOfAFullOneChangesNothing(t *testing.T) {
	for _, most := range bounds() {
		for _, through := range []int{0, 1, most - 1, most, 2*most + 1} {
			p := filled(t, most, most, through)
			ahead := p.q.All()
			for range 3 {
				if e := p.q.Put(-7); e != api.ErrBusy {
					t.Errorf("Put of a full one: %d", e)
				}
				p.hold()
			}
			if !slices.Equal(ahead, row(1, most)) {
				t.Errorf("Put of a full one changed what was told: %v", ahead)
			}
			for range most {
				p.takeOne()
			}
			p.takeAll()
		}
	}
}

func TestPutBehindATakeOfAFullOne(t *testing.T) {
	for _, most := range bounds() {
		p := filled(t, most, most, 0)
		for i := range 10 {
			p.putOne(-1)
			p.takeOne()
			p.hold()
			p.putAll(1000+most+i, -2)
		}
		p.takeOne()
		p.takeOne()
		p.hold()
		p.putAll(5001, 5002, 5003)
	}
}

func TestPutOfTheSameThingTwice(t *testing.T) {
	p := made[string](t, 4)
	p.putAll("a", "a", "", "a", "a")
	p.takeAll()
}

func TestFullAndLenAtEachStep(t *testing.T) {
	for _, most := range bounds() {
		p := made[int](t, most)
		for n := range most {
			if p.q.Full() || p.q.Len() != n {
				t.Fatalf("the bound %d, %d things: %t, %d", most, n, p.q.Full(), p.q.Len())
			}
			p.putOne(n)
		}
		for n := most; n > 0; n-- {
			if p.q.Full() != (n == most) || p.q.Len() != n {
				t.Fatalf("the bound %d, %d things: %t, %d", most, n, p.q.Full(), p.q.Len())
			}
			p.takeOne()
		}
		p.hold()
	}
}

// P10.2

// wantNone holds a queue without things, whose zero one must be told.
func wantNone[T comparable](t *testing.T, most int) {
	t.Helper()
	var zero T
	q, e := fifo.New[T](most)
	if e != api.OK {
		t.Fatal(e)
	}
	for range 2 {
		if x, is := q.First(); x != zero || is {
			t.Errorf("First of none: %v, %t", x, is)
		}
		if x, is := q.Take(); x != zero || is {
			t.Errorf("Take of none: %v, %t", x, is)
		}
		if q.Len() != 0 || q.Full() || len(q.All()) != 0 {
			t.Errorf("of none: %d, %t, %v", q.Len(), q.Full(), q.All())
		}
	}
}

func TestNoneOfManyTypes(t *testing.T) {
	for _, most := range bounds() {
		wantNone[int](t, most)
		wantNone[string](t, most)
		wantNone[bool](t, most)
		wantNone[byte](t, most)
		wantNone[float64](t, most)
		wantNone[page](t, most)
		wantNone[*page](t, most)
		wantNone[[3]int](t, most)
		wantNone[any](t, most)
		wantNone[error](t, most)
		wantNone[struct{}](t, most)
	}
}

func TestZeroOnceAllAreTaken(t *testing.T) {
	p := made[page](t, 3)
	p.putAll(page{at: 1, name: "a"}, page{at: 2, name: "b"})
	p.takeAll()
	p.putAll(page{at: 3})
	p.clear()
	p.hold()
	p.takeAll()
}

func TestTakeOfNoneChangesNothing(t *testing.T) {
	for _, most := range bounds() {
		for _, through := range []int{0, 1, most, most + 1} {
			p := filled(t, most, 0, through)
			for range 2*most + 1 {
				p.takeOne()
			}
			p.hold()
			for _, x := range row(1, most+1) {
				p.putOne(x)
			}
			p.hold()
		}
	}
}

func TestFirstStays(t *testing.T) {
	for _, most := range bounds() {
		for _, n := range lived(most) {
			p := filled(t, most, n, most/2)
			for range 5 {
				p.hold()
			}
			if n > 0 {
				if x, is := p.q.First(); x != 1 || !is || p.q.Len() != n {
					t.Errorf("First: %d, %t, and %d things of %d", x, is, p.q.Len(), n)
				}
			}
			p.putOne(n + 1)
			p.hold()
		}
	}
}

func TestTakeTellsWhatFirstTold(t *testing.T) {
	p := filled(t, 9, 9, 4)
	for range 11 {
		first, is := p.q.First()
		x, was := p.q.Take()
		if first != x || is != was {
			t.Errorf("First: %d, %t; Take: %d, %t", first, is, x, was)
		}
	}
}

func TestZeroThingsAreThings(t *testing.T) {
	p := made[int](t, 3)
	p.putAll(0, 0, 0, 0)
	if x, is := p.q.First(); x != 0 || !is {
		t.Errorf("First of a nought that is there: %d, %t", x, is)
	}
	p.takeAll()
	none := made[*page](t, 2)
	none.putAll(nil, nil, nil)
	none.takeAll()
	empty := made[struct{}](t, 3)
	empty.putAll(struct{}{}, struct{}{}, struct{}{}, struct{}{})
	empty.takeAll()
}

func TestClear(t *testing.T) {
	for _, most := range bounds() {
		for _, n := range lived(most) {
			for _, through := range []int{0, 1, most} {
				p := filled(t, most, n, through)
				p.clear()
				p.hold()
				p.clear()
				p.hold()
				p.takeOne()
				p.hold()
				for _, x := range row(10001, most) {
					p.putOne(x)
				}
				p.putAll(-1, -2)
				for range most {
					p.takeOne()
				}
				p.takeAll()
			}
		}
	}
}

func TestClearOfMoreThanGoesInBehind(t *testing.T) {
	p := filled(t, 5, 5, 3)
	p.clear()
	p.putAll(11, 12)
	p.takeAll()
	p.putAll(13)
	p.clear()
	p.putAll(14, 15, 16)
	p.takeOne()
	p.clear()
	p.hold()
	p.takeAll()
}

func TestAllInTheirRow(t *testing.T) {
	q, _ := fifo.New[string](3)
	if l := q.All(); len(l) != 0 {
		t.Errorf("All of none: %q", l)
	}
	for _, x := range []string{"c", "a", "b"} {
		q.Put(x)
	}
	if l := q.All(); !slices.Equal(l, []string{"c", "a", "b"}) {
		t.Errorf("All: %q", l)
	}
	q.Take()
	q.Put("A")
	if l := q.All(); !slices.Equal(l, []string{"a", "b", "A"}) {
		t.Errorf("All behind a Take and a Put: %q", l)
	}
	q.Clear()
	if l := q.All(); len(l) != 0 {
		t.Errorf("All behind a Clear: %q", l)
	}
}

// P10.3

// wantRow puts things in turns of some, and takes them in turns of others: all
// must be taken in the row in which they were put.
func wantRow[T comparable](t *testing.T, most, puts, takes int, things []T) {
	t.Helper()
	q, _ := fifo.New[T](most)
	var taken []T
	for next := 0; len(taken) < len(things); {
		for range puts {
			if next < len(things) && q.Put(things[next]) == api.OK {
				next++
			}
		}
		for range takes {
			if x, is := q.Take(); is {
				taken = append(taken, x)
			}
		}
		if q.Len() != next-len(taken) {
			t.Fatalf("%d were put, %d taken, %d are there", next, len(taken), q.Len())
		}
	}
	if !slices.Equal(taken, things) {
		t.Errorf("the bound %d, %d and %d in turn: taken in another row: %v", most, puts, takes, taken)
	}
}

func TestTakenInTheRowInWhichTheyWerePut(t *testing.T) {
	numbers := row(1, 400)
	for most := 1; most <= 10; most++ {
		for puts := 1; puts <= most+1; puts++ {
			for takes := 1; takes <= most+1; takes++ {
				wantRow(t, most, puts, takes, numbers)
			}
		}
	}
}

func TestManyTimesRound(t *testing.T) {
	wantRow(t, 1000, 1000, 1000, row(1, 5000))
	wantRow(t, 1000, 999, 1, row(1, 3000))
	wantRow(t, 1000, 700, 300, row(1, 9000))
	wantRow(t, 1, 1, 1, row(1, 20000))
	wantRow(t, 8, 3, 2, row(1, 20000))
}

func TestThingsOfManyTypes(t *testing.T) {
	var texts []string
	var structs []page
	var pointers []*page
	var lists [][2]int
	var mixed []any
	for i := range 50 {
		texts = append(texts, strconv.Itoa(i%7))
		structs = append(structs, page{at: i, name: texts[i], bytes: [32]byte{31: byte(i)}})
		pointers = append(pointers, &page{at: i % 3})
		lists = append(lists, [2]int{i, -i})
		mixed = append(mixed, i, texts[i], nil, pointers[i])
	}
	for most := 1; most <= 5; most++ {
		wantRow(t, most, 3, 2, texts)
		wantRow(t, most, 3, 2, structs)
		wantRow(t, most, 2, 3, pointers)
		wantRow(t, most, 2, 1, lists)
		wantRow(t, most, 4, 1, mixed)
	}
}

// TestThingsThatCannotBeCompared: what waits need not be such as == may be
// asked of, nor equal to itself.
func TestThingsThatCannotBeCompared(t *testing.T) {
	lists, _ := fifo.New[[]byte](2)
	if x, is := lists.Take(); x != nil || is {
		t.Errorf("Take of none: %q, %t", x, is)
	}
	lists.Put([]byte("a"))
	lists.Put([]byte("b"))
	if x, is := lists.Take(); string(x) != "a" || !is {
		t.Errorf("Take: %q, %t", x, is)
	}
	calls, _ := fifo.New[func() int](2)
	calls.Put(func() int { return 7 })
	if f, is := calls.First(); !is || f() != 7 {
		t.Errorf("First of a call: %t", is)
	}
	calls.Clear()
	if f, is := calls.First(); is || f != nil {
		t.Errorf("First of no call: %t", is)
	}
	floats, _ := fifo.New[float64](2)
	floats.Put(math.NaN())
	floats.Put(2)
	if x, is := floats.Take(); !is || !math.IsNaN(x) || floats.Len() != 1 {
		t.Errorf("Take of no number: %v, %t, and %d are left", x, is, floats.Len())
	}
}

// step makes one call, which a number chooses.
func (p *pair[T]) step(kind int, x T) {
	p.t.Helper()
	switch {
	case kind < 5:
		p.putOne(x)
	case kind < 9:
		p.takeOne()
	default:
		p.clear()
	}
}

func TestManyCalls(t *testing.T) {
	for seed := range int64(60) {
		rnd := rand.New(rand.NewSource(seed))
		p := made[int](t, 1+rnd.Intn(12))
		kinds := 9 + rnd.Intn(2)
		for i := range 400 {
			p.step(rnd.Intn(kinds), i+1)
			p.hold()
		}
	}
}

// R5

// told is all that a queue tells.
func told(q *fifo.Queue[string]) string {
	x, is := q.First()
	s := strconv.Itoa(q.Len()) + " " + strconv.FormatBool(q.Full()) + " " + strconv.Quote(x) + " " + strconv.FormatBool(is)
	for _, x := range q.All() {
		s += " " + strconv.Quote(x)
	}
	return s
}

// TestTheSameCallsTellTheSame asks one queue twins of another one's calls, and
// a third one others in between.
func TestTheSameCallsTellTheSame(t *testing.T) {
	rnd := rand.New(rand.NewSource(1))
	a, b, other := made[string](t, 5), made[string](t, 5), made[string](t, 5)
	for i := range 2000 {
		kind, x := rnd.Intn(10), strconv.Itoa(i)
		a.step(kind, x)
		other.step(rnd.Intn(10), "other "+x)
		b.step(kind, x)
		if one, two := told(a.q), told(b.q); one != two {
			t.Fatalf("told otherwise: %s and %s", one, two)
		}
		a.hold()
		other.hold()
	}
}

func TestOneQueueAlone(t *testing.T) {
	a, b := filled(t, 4, 3, 2), filled(t, 4, 3, 2)
	b.putAll(9, 9)
	a.hold()
	b.takeOne()
	a.hold()
	b.clear()
	a.hold()
	a.takeAll()
	b.hold()
}

// TestHowItCameToItIsNotSeen holds queues with the same things against each
// other, which came to them by several ways.
func TestHowItCameToItIsNotSeen(t *testing.T) {
	straight, _ := fifo.New[string](3)
	round, _ := fifo.New[string](3)
	cleared, _ := fifo.New[string](3)
	for i := range 20 {
		round.Put(strconv.Itoa(i))
		round.Take()
		cleared.Put(strconv.Itoa(i))
	}
	cleared.Clear()
	for range 5 {
		for _, q := range []*fifo.Queue[string]{straight, round, cleared} {
			if got, want := told(q), told(straight); got != want {
				t.Errorf("told: %s, want %s", got, want)
			}
		}
		straight.Put("x")
		round.Put("x")
		cleared.Put("x")
	}
}

func TestAskingChangesNothing(t *testing.T) {
	for _, most := range bounds() {
		for _, n := range lived(most) {
			p := filled(t, most, n, 1)
			for range 3 {
				p.q.Len()
				p.q.Full()
				p.q.First()
				p.q.All()
			}
			p.hold()
			for range n {
				p.takeOne()
			}
			p.hold()
		}
	}
}

// R4

// spoil writes into a list and all of its room, and puts more behind it.
func spoil(l []int) {
	whole := l[:cap(l)]
	for i := range whole {
		whole[i] = -77
	}
	l = append(l, -78)
	l[0] = -79
}

func TestWhatAllToldIsNew(t *testing.T) {
	for _, most := range bounds() {
		for _, n := range lived(most) {
			for _, through := range []int{0, 1, most} {
				p := filled(t, most, n, through)
				one, two := p.q.All(), p.q.All()
				slices.Reverse(one)
				p.hold()
				spoil(one)
				p.hold()
				if !slices.Equal(two, row(1, n)) {
					t.Errorf("two lists have one memory: %v", two)
				}
				spoil(two)
				p.putAll(n+1, n+2)
				p.takeOne()
				p.hold()
			}
		}
	}
}

func TestSpoiledListsOfAClearedOne(t *testing.T) {
	p := filled(t, 4, 4, 2)
	p.clear()
	l := p.q.All()
	spoil(l)
	p.putAll(21, 22, 23)
	spoil(l)
	p.hold()
	p.takeAll()
}

func TestWhatAllToldStays(t *testing.T) {
	for _, most := range bounds() {
		for _, n := range lived(most) {
			p := filled(t, most, n, most/2)
			l := p.q.All()
			for i := range 2 * most {
				p.takeOne()
				p.putOne(-1 - i)
				p.putOne(-1 - i)
			}
			if !slices.Equal(l, row(1, n)) {
				t.Fatalf("later calls changed what was told: %v", l)
			}
			p.clear()
			p.putOne(-5)
			if !slices.Equal(l, row(1, n)) {
				t.Fatalf("Clear changed what was told: %v", l)
			}
		}
	}
}

// TestTheThingIsTheThing: what waits is told as it was put, a pointer as the
// pointer and bytes as those bytes, whose memory is no queue's.
func TestTheThingIsTheThing(t *testing.T) {
	x := &page{at: 1}
	q, _ := fifo.New[*page](2)
	q.Put(x)
	x.at = 2
	if first, _ := q.First(); first != x || q.All()[0] != x {
		t.Error("a pointer is told as another one")
	}
	q.Clear()
	if x.at != 2 {
		t.Errorf("Clear changed what the pointer is of: %d", x.at)
	}
	b := []byte("bytes")
	lists, _ := fifo.New[[]byte](2)
	lists.Put(b)
	lists.Put(b)
	lists.Take()
	lists.Clear()
	if !bytes.Equal(b, []byte("bytes")) {
		t.Errorf("the bytes that waited are changed: %q", b)
	}
}

// waiting puts n pages, and tells them so that they are not kept by being told.
func waiting(q *fifo.Queue[*page], n int) []weak.Pointer[page] {
	var l []weak.Pointer[page]
	for i := range n {
		x := &page{at: i}
		q.Put(x)
		l = append(l, weak.Make(x))
	}
	return l
}

// left is how many things are still kept.
func left(l []weak.Pointer[page]) int {
	n := 0
	for _, w := range l {
		if w.Value() != nil {
			n++
		}
	}
	return n
}

// wantGone waits some rounds of the collector for things to be kept no more.
func wantGone(t *testing.T, q *fifo.Queue[*page], l []weak.Pointer[page], want int) {
	t.Helper()
	for range 20 {
		runtime.GC()
		if left(l) == want {
			break
		}
	}
	if n := left(l); n != want {
		t.Errorf("%d things are kept, want %d", n, want)
	}
	runtime.KeepAlive(q)
}

func TestWhatIsThereNoMoreIsNotKept(t *testing.T) {
	for _, through := range []int{0, 3, 8, 11} {
		q, _ := fifo.New[*page](8)
		for range through {
			q.Put(nil)
			q.Take()
		}
		l := waiting(q, 8)
		for n := 7; n >= 5; n-- {
			q.Take()
			wantGone(t, q, l, n)
		}
		q.Put(nil)
		q.Clear()
		wantGone(t, q, l, 0)
	}
}

// FuzzQueue makes the calls that bytes choose, and holds all that is told.
func FuzzQueue(f *testing.F) {
	f.Add(2, []byte{0, 1, 2, 5, 9})
	f.Add(1, []byte{0, 0, 5, 5, 0})
	f.Add(1000, []byte{0, 1, 5, 2, 9, 3})
	f.Add(0, []byte{0})
	f.Add(1001, []byte{0})
	f.Fuzz(func(t *testing.T, most int, calls []byte) {
		if most < 1 || most > 1000 {
			if q, e := fifo.New[int](most); q != nil || e != api.ErrArg {
				t.Errorf("New(%d): %v, %d", most, q, e)
			}
			return
		}
		p := made[int](t, most)
		for i, kind := range calls {
			p.step(int(kind%10), i+1)
			p.hold()
		}
		p.takeAll()
	})
}
