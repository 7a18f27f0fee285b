package clock_test

import (
	"math"
	"math/rand"
	"slices"
	"testing"

	"allotment/api"
	"allotment/clock"
	"allotment/frame"
)

// row is flags by a text, one word of four letters each: u used, d dirty, r
// referred to, a digit for the pins, of which 8 stands for 100 and 9 for more
// than a frame may have.
func row(words ...string) []frame.Flags {
	var l []frame.Flags
	for _, w := range words {
		pins := int(w[3] - '0')
		switch pins {
		case 8:
			pins = api.MaxPins
		case 9:
			pins = math.MaxInt
		}
		l = append(l, frame.Flags{Used: w[0] == 'u', Dirty: w[1] == 'd', Ref: w[2] == 'r', Pins: pins})
	}
	return l
}

// allFlags are flags of all kinds, at these pins: such too as no call makes
// (pinned and not used, referred to and not used).
func allFlags(pins ...int) []frame.Flags {
	var l []frame.Flags
	for k := range 8 {
		for _, n := range pins {
			l = append(l, frame.Flags{Used: k&1 != 0, Dirty: k&2 != 0, Ref: k&4 != 0, Pins: n})
		}
	}
	return l
}

// eachList has all lists of n of these kinds looked at, with each hand.
func eachList(kinds []frame.Flags, n int, look func(l []frame.Flags, hand int)) {
	l := make([]frame.Flags, n)
	var fill func(i int)
	fill = func(i int) {
		if i < n {
			for _, f := range kinds {
				l[i] = f
				fill(i + 1)
			}
			return
		}
		for hand := range n {
			look(l, hand)
		}
	}
	fill(0)
}

// allLists has all lists of a few frames looked at, with each hand: up to
// three of all kinds, more of fewer kinds.
func allLists(look func(l []frame.Flags, hand int)) {
	for n := 1; n <= 3; n++ {
		eachList(allFlags(0, 1, 100), n, look)
	}
	few := row("---0", "--r1", "u--0", "u-r0", "u--1", "udr8")
	for n := 4; n <= 6; n++ {
		eachList(few, n, look)
	}
}

// drawn is n flags by chance; which kinds there are many of is by chance, too.
func drawn(rnd *rand.Rand, n int) []frame.Flags {
	used, ref, pinned := rnd.Intn(101), rnd.Intn(101), rnd.Intn(101)
	if rnd.Intn(2) == 0 {
		used = 100
	}
	l := make([]frame.Flags, n)
	for i := range l {
		l[i] = frame.Flags{Used: rnd.Intn(100) < used, Dirty: rnd.Intn(2) == 0, Ref: rnd.Intn(100) < ref}
		if rnd.Intn(100) < pinned {
			l[i].Pins = 1 + rnd.Intn(100)
		}
	}
	return l
}

// drawnLists has lists by chance looked at: of all lengths that a tenant's
// frames have, and of some more.
func drawnLists(seed int64, look func(l []frame.Flags, hand int)) {
	rnd := rand.New(rand.NewSource(seed))
	for n := 1; n <= 70; n++ {
		for range 60 {
			look(drawn(rnd, n), rnd.Intn(n))
		}
	}
}

// told is all that the calls tell of flags and a hand.
type told struct {
	victim, hand int
	flags        []frame.Flags
	is           bool
	looks, free  int
}

// tell asks all three calls.
func tell(l []frame.Flags, hand int) told {
	var x told
	x.victim, x.hand, x.flags, x.is = clock.Turn(l, hand)
	x.looks, x.free = clock.Rounds(l, hand), clock.Free(l)
	return x
}

func same(x, y told) bool {
	return x.victim == y.victim && x.hand == y.hand && slices.Equal(x.flags, y.flags) && x.is == y.is && x.looks == y.looks && x.free == y.free
}

// hold holds what the calls tell against what they should.
func hold(t *testing.T, l []frame.Flags, hand int, want told) {
	t.Helper()
	if got := tell(l, hand); !same(got, want) {
		t.Fatalf("%+v, the hand at %d:\n%+v, want\n%+v", l, hand, got, want)
	}
}

// mayGo says whether a frame may be a victim at all.
func mayGo(f frame.Flags) bool { return !f.Used || f.Pins == 0 }

// goesAtOnce says whether it is one at the first look.
func goesAtOnce(f frame.Flags) bool { return !f.Used || f.Pins == 0 && !f.Ref }

// expected is what the calls should tell, without a hand that goes round: of
// the frames as they stand from the hand on, the first one that goes at once
// is the victim; if there is none, the first one that may go, one round later.
func expected(l []frame.Flags, hand int) told {
	from := append(slices.Clone(l[hand:]), l[:hand]...)
	x := told{hand: hand}
	for _, f := range l {
		if mayGo(f) {
			x.free++
		}
	}
	passed, first := slices.IndexFunc(from, goesAtOnce), 0
	switch {
	case passed >= 0:
		first, x.looks = passed, passed+1
	case x.free > 0:
		first = slices.IndexFunc(from, mayGo)
		passed, x.looks = len(from), len(from)+first+1
	}
	for i := range max(passed, 0) {
		if from[i].Used && from[i].Pins == 0 {
			from[i].Ref = false
		}
	}
	behind := len(l) - hand
	x.flags = append(slices.Clone(from[behind:]), from[:behind]...)
	if x.is = x.looks > 0; x.is {
		x.victim = (hand + first) % len(l)
		x.hand = (hand + first + 1) % len(l)
	}
	return x
}

// The example

func TestExample(t *testing.T) {
	l := row("u-r0", "u-r0")
	hold(t, l, 1, told{1, 0, row("u--0", "u--0"), true, 3, 2})
	if victim, _, now, is := clock.Turn(l, 1); victim != 1 || !is || now[0].Ref {
		t.Error(victim, now, is)
	}
}

// P13.1 and P13.2, at what the chapter names

func TestOneFrameAlone(t *testing.T) {
	for _, x := range []struct {
		word string
		want told
	}{
		{"---0", told{0, 0, row("---0"), true, 1, 1}},
		{"--r0", told{0, 0, row("--r0"), true, 1, 1}},
		{"-d-0", told{0, 0, row("-d-0"), true, 1, 1}},
		{"---1", told{0, 0, row("---1"), true, 1, 1}},
		{"-dr8", told{0, 0, row("-dr8"), true, 1, 1}},
		{"u--0", told{0, 0, row("u--0"), true, 1, 1}},
		{"ud-0", told{0, 0, row("ud-0"), true, 1, 1}},
		{"u-r0", told{0, 0, row("u--0"), true, 2, 1}},
		{"udr0", told{0, 0, row("ud-0"), true, 2, 1}},
		{"u--1", told{0, 0, row("u--1"), false, 0, 0}},
		{"udr1", told{0, 0, row("udr1"), false, 0, 0}},
		{"u-r8", told{0, 0, row("u-r8"), false, 0, 0}},
		{"udr9", told{0, 0, row("udr9"), false, 0, 0}},
	} {
		hold(t, row(x.word), 0, x.want)
	}
}

func TestKnownLists(t *testing.T) {
	for _, x := range []struct {
		l    []frame.Flags
		hand int
		want told
	}{
		// the hand at the first, in between, and at the last
		{row("u--0", "u--0", "u--0"), 0, told{0, 1, row("u--0", "u--0", "u--0"), true, 1, 3}},
		{row("u--0", "u--0", "u--0"), 1, told{1, 2, row("u--0", "u--0", "u--0"), true, 1, 3}},
		{row("u--0", "u--0", "u--0"), 2, told{2, 0, row("u--0", "u--0", "u--0"), true, 1, 3}},
		// from the last one on to the first
		{row("u--0", "u--1", "u--1"), 1, told{0, 1, row("u--0", "u--1", "u--1"), true, 3, 1}},
		{row("u-r0", "u--0", "u-r0"), 2, told{1, 2, row("u--0", "u--0", "u--0"), true, 3, 3}},
		// what the hand does not come to stays referred to
		{row("u-r0", "u-r0", "u--0", "u-r0"), 1, told{2, 3, row("u-r0", "u--0", "u--0", "u-r0"), true, 2, 4}},
		{row("u-r0", "---0", "u-r0"), 0, told{1, 2, row("u--0", "---0", "u-r0"), true, 2, 3}},
		// one that is not used goes, whatever else is known of it, and stays as it is
		{row("u--1", "-dr1", "u--0"), 0, told{1, 2, row("u--1", "-dr1", "u--0"), true, 2, 2}},
		{row("u--1", "--r0", "u--0"), 0, told{1, 2, row("u--1", "--r0", "u--0"), true, 2, 2}},
		{row("u--1", "---8", "u--1"), 2, told{1, 2, row("u--1", "---8", "u--1"), true, 3, 1}},
		// one that is pinned is passed by, and stays referred to
		{row("u-r1", "u--0"), 0, told{1, 0, row("u-r1", "u--0"), true, 2, 1}},
		{row("u-r1", "u-r0"), 0, told{1, 0, row("u-r1", "u--0"), true, 4, 1}},
		{row("u-r0", "u-r8"), 1, told{0, 1, row("u--0", "u-r8"), true, 4, 1}},
		{row("u-r9", "udr0", "u-r1"), 2, told{1, 2, row("u-r9", "ud-0", "u-r1"), true, 6, 1}},
		// one that is dirty is as one that is not
		{row("ud-0", "u--0"), 0, told{0, 1, row("ud-0", "u--0"), true, 1, 2}},
		{row("u--1", "ud-0"), 0, told{1, 0, row("u--1", "ud-0"), true, 2, 1}},
		// all are of one kind
		{row("---0", "---0", "---0"), 2, told{2, 0, row("---0", "---0", "---0"), true, 1, 3}},
		{row("---1", "---1"), 1, told{1, 0, row("---1", "---1"), true, 1, 2}},
		{row("udr0", "udr0", "udr0"), 1, told{1, 2, row("ud-0", "ud-0", "ud-0"), true, 4, 3}},
		{row("udr1", "u--8", "u-r9"), 0, told{0, 0, row("udr1", "u--8", "u-r9"), false, 0, 0}},
		{row("udr1", "u--8", "u-r9"), 1, told{0, 1, row("udr1", "u--8", "u-r9"), false, 0, 0}},
		{row("udr1", "u--8", "u-r9"), 2, told{0, 2, row("udr1", "u--8", "u-r9"), false, 0, 0}},
	} {
		hold(t, x.l, x.hand, x.want)
	}
}

func TestAllFewFrames(t *testing.T) {
	allLists(func(l []frame.Flags, hand int) { hold(t, l, hand, expected(l, hand)) })
}

func TestFramesByChance(t *testing.T) {
	drawnLists(1, func(l []frame.Flags, hand int) { hold(t, l, hand, expected(l, hand)) })
}

// One frame among many, at each place, and the hand at each.
func TestOneAmongMany(t *testing.T) {
	for _, n := range []int{2, 3, 16, 63, 64, 65, 100} {
		for at := range n {
			for hand := range n {
				way := (at - hand + n) % n
				for _, x := range []struct {
					others, one, left string
					looks             int
				}{
					{"udr1", "u--0", "u--0", way + 1}, {"udr1", "udr0", "ud-0", n + way + 1}, {"udr1", "-dr1", "-dr1", way + 1},
				} {
					l := slices.Repeat(row(x.others), n)
					now := slices.Clone(l)
					l[at], now[at] = row(x.one)[0], row(x.left)[0]
					hold(t, l, hand, told{at, (at + 1) % n, now, true, x.looks, 1})
				}
			}
		}
	}
}

// The looks are as many as frames, twice; the last one is the victim's.
func TestVeryManyFrames(t *testing.T) {
	const n = 1 << 17
	l := slices.Repeat(row("udr1"), n)
	hold(t, l, 5, told{0, 5, l, false, 0, 0})
	l[4] = row("u-r0")[0]
	now := slices.Clone(l)
	now[4].Ref = false
	hold(t, l, 5, told{4, 5, now, true, 2 * n, 1})
	l[n-1] = row("---0")[0]
	hold(t, l, 5, told{n - 1, 0, l, true, n - 5, 2})
	l = slices.Repeat(row("udr0"), n)
	hold(t, l, n-1, told{n - 1, 0, slices.Repeat(row("ud-0"), n), true, n + 1, n})
}

// P13.1

// Turned again and again, the hand is where the last turn left it: of frames
// that nobody refers to each goes in its turn.
func TestTurnsOneBehindTheOther(t *testing.T) {
	for _, word := range []string{"---0", "u--0", "u-r0"} {
		l, hand := slices.Repeat(row(word), 7), 3
		for k := range 30 {
			victim, behind, now, is := clock.Turn(l, hand)
			if victim != (3+k)%7 || behind != (4+k)%7 || !is {
				t.Fatalf("%s, turn %d: %d, %d, %t", word, k, victim, behind, is)
			}
			l, hand = now, behind
		}
	}
}

// A victim that is loaded again and pinned does not go; the others do, and
// then none is left.
func TestTurnsTillAllArePinned(t *testing.T) {
	l, hand := make([]frame.Flags, 5), 2
	for k := range 5 {
		victim, behind, now, is := clock.Turn(l, hand)
		if victim != (2+k)%5 || behind != (3+k)%5 || !is || clock.Free(l) != 5-k {
			t.Fatalf("turn %d: %d, %d, %t", k, victim, behind, is)
		}
		now[victim].Used = true
		if e := now[victim].Pin(); e != api.OK {
			t.Fatal(e)
		}
		l, hand = now, behind
	}
	hold(t, l, hand, told{0, 2, slices.Repeat(row("u-r1"), 5), false, 0, 0})
	if e := l[4].Unpin(); e != api.OK {
		t.Fatal(e)
	}
	hold(t, l, hand, told{4, 0, row("u-r1", "u-r1", "u-r1", "u-r1", "u--0"), true, 8, 1})
}

// wantChanges holds the flags behind a turn against those ahead of it: nothing
// but Ref is changed, and that of none but those that were looked at, are
// used, and are not pinned, to false.
func wantChanges(t *testing.T, l []frame.Flags, hand int) {
	t.Helper()
	_, _, now, _ := clock.Turn(l, hand)
	looks := clock.Rounds(l, hand)
	if len(now) != len(l) {
		t.Fatalf("%+v, the hand at %d: %+v", l, hand, now)
	}
	for i, f := range now {
		looked := (i-hand+len(l))%len(l) < looks
		want := l[i]
		want.Ref = want.Ref && !(looked && want.Used && want.Pins == 0)
		if f != want {
			t.Fatalf("%+v, the hand at %d: %d is %+v, want %+v", l, hand, i, f, want)
		}
	}
}

func TestNothingButRefIsChanged(t *testing.T) {
	allLists(func(l []frame.Flags, hand int) { wantChanges(t, l, hand) })
	drawnLists(2, func(l []frame.Flags, hand int) { wantChanges(t, l, hand) })
}

// Where there is no victim the hand and the flags are told as they were, of
// each hand, whatever else is known of the frames.
func TestAllUsedAndPinned(t *testing.T) {
	var kinds []frame.Flags
	for _, f := range allFlags(1, 2, 100, 101, math.MaxInt) {
		if f.Used {
			kinds = append(kinds, f)
		}
	}
	for n := 1; n <= 3; n++ {
		eachList(kinds, n, func(l []frame.Flags, hand int) { hold(t, l, hand, told{0, hand, l, false, 0, 0}) })
	}
	for n := 1; n <= 70; n++ {
		l := slices.Repeat(row("udr1"), n)
		for hand := range n {
			hold(t, l, hand, told{0, hand, l, false, 0, 0})
		}
	}
}

// It is the one case without a victim: a single frame that is of another kind
// is one.
func TestFalseOnlyIfAllAreUsedAndPinned(t *testing.T) {
	check := func(l []frame.Flags, hand int) {
		all := !slices.ContainsFunc(l, func(f frame.Flags) bool { return !(f.Used && f.Pins > 0) })
		victim, behind, now, is := clock.Turn(l, hand)
		if is == all || all && (victim != 0 || behind != hand || !slices.Equal(now, l)) {
			t.Fatalf("%+v, the hand at %d: %d, %d, %+v, %t", l, hand, victim, behind, now, is)
		}
		if victim < 0 || victim >= len(l) || behind < 0 || behind >= len(l) || is && behind != (victim+1)%len(l) {
			t.Fatalf("%+v, the hand at %d: %d, %d", l, hand, victim, behind)
		}
	}
	allLists(check)
	drawnLists(3, check)
}

// How often one is pinned tells nothing, but whether it is.
func TestPinsOf1AndMore(t *testing.T) {
	for _, pins := range []int{1, 2, 3, 50, 99, 100, 101, 255, 256, 1 << 16, 1 << 31, 1 << 32, 1<<32 + 1, 1 << 62, math.MaxInt} {
		l := row("u--1", "u-r1", "u--0", "---1")
		for i := range l {
			if l[i].Pins > 0 {
				l[i].Pins = pins
			}
		}
		for hand := range l {
			hold(t, l, hand, expected(l, hand))
		}
		hold(t, l, 0, told{2, 3, l, true, 3, 2})
		hold(t, l, 3, told{3, 0, l, true, 1, 2})
		hold(t, l[:2], 1, told{0, 1, l[:2], false, 0, 0})
	}
}

// P13.2

func TestFreeOfKnownLists(t *testing.T) {
	for _, x := range []struct {
		l    []frame.Flags
		want int
	}{
		{row("u--0"), 1}, {row("udr0"), 1}, {row("---0"), 1}, {row("u--1"), 0}, {row("udr8"), 0}, {row("u--9"), 0},
		{row("u--0", "u--1"), 1}, {row("u--1", "u--0"), 1}, {row("---0", "u--1", "---0"), 2}, {row("---0", "udr0", "u--1"), 2},
		{row("u-r0", "u-r0", "ud-0", "---0"), 4}, {row("u-r1", "u-r2", "ud-8"), 0},
		{row("---1", "u--1"), 1}, {row("-dr8", "--r1"), 2},
	} {
		if n := clock.Free(x.l); n != x.want {
			t.Errorf("Free of %+v: %d, want %d", x.l, n, x.want)
		}
	}
}

// Of frames whose flags are made by chapter 12's calls Free counts as their
// own Free tells.
func TestFreeIsAsTheFramesTell(t *testing.T) {
	rnd := rand.New(rand.NewSource(4))
	l := make([]frame.Flags, 64)
	var f frame.Frame
	for range 5000 {
		i := rnd.Intn(len(l))
		f.Flags = l[i]
		switch rnd.Intn(6) {
		case 0:
			f.Load(i, make([]byte, api.Page))
		case 1:
			f.Zero()
		case 2, 3:
			f.Pin()
		default:
			f.Unpin()
		}
		l[i] = f.Flags
		want := 0
		for k := range l {
			if l[k].Free() {
				want++
			}
		}
		if n := clock.Free(l); n != want {
			t.Fatalf("Free of %+v: %d, want %d", l, n, want)
		}
	}
}

func TestFreeIsTheSumOfEach(t *testing.T) {
	check := func(l []frame.Flags, _ int) {
		sum := 0
		for i := range l {
			sum += clock.Free(l[i : i+1])
		}
		if n := clock.Free(l); n != sum {
			t.Fatalf("Free of %+v: %d, one by one %d", l, n, sum)
		}
	}
	allLists(check)
	drawnLists(5, check)
}

// The looks end at the victim, in the first round or in the second.
func TestRoundsEndAtTheVictim(t *testing.T) {
	check := func(l []frame.Flags, hand int) {
		victim, _, _, is := clock.Turn(l, hand)
		looks := clock.Rounds(l, hand)
		if is != (looks > 0) || is && (hand+looks-1)%len(l) != victim {
			t.Fatalf("%+v, the hand at %d: the victim %d, %t, behind %d looks", l, hand, victim, is, looks)
		}
	}
	allLists(check)
	drawnLists(6, check)
}

// P13.3

// wantVictim holds what is told, if one is not pinned, against the promise.
// One that is not used is not pinned here, whatever its pins are.
func wantVictim(t *testing.T, l []frame.Flags, hand int) {
	t.Helper()
	victim, _, _, is := clock.Turn(l, hand)
	looks := clock.Rounds(l, hand)
	if !slices.ContainsFunc(l, mayGo) {
		return
	}
	if !is || looks < 1 || looks > 2*len(l) || !mayGo(l[victim]) {
		t.Fatalf("%+v, the hand at %d: the victim %d, %t, behind %d looks", l, hand, victim, is, looks)
	}
	if slices.ContainsFunc(l, goesAtOnce) && (!goesAtOnce(l[victim]) || looks > len(l)) {
		t.Fatalf("%+v, the hand at %d: the victim is %d, behind %d looks, and another one is not referred to", l, hand, victim, looks)
	}
}

func TestOneThatIsNotPinnedGoes(t *testing.T) {
	allLists(func(l []frame.Flags, hand int) { wantVictim(t, l, hand) })
	drawnLists(7, func(l []frame.Flags, hand int) { wantVictim(t, l, hand) })
}

// As calls make flags, pinned is never one that is not used, and no victim is
// pinned.
func TestNoVictimIsPinned(t *testing.T) {
	kinds := row("---0", "u--0", "udr0", "u--1", "udr1", "u-r8")
	for n := 1; n <= 6; n++ {
		eachList(kinds, n, func(l []frame.Flags, hand int) {
			victim, _, now, is := clock.Turn(l, hand)
			free := slices.ContainsFunc(l, func(f frame.Flags) bool { return f.Pins == 0 })
			if is != free || is && (l[victim].Pins != 0 || now[victim].Pins != 0) {
				t.Fatalf("%+v, the hand at %d: the victim %d, %t", l, hand, victim, is)
			}
		})
	}
}

// Twice as many looks as frames is what it takes at worst: the one that is
// not pinned stands just behind the hand, and is referred to.
func TestTwiceAsManyLooks(t *testing.T) {
	for n := 1; n <= 70; n++ {
		for hand := range n {
			l := slices.Repeat(row("u-r1"), n)
			l[(hand+n-1)%n].Pins = 0
			if looks := clock.Rounds(l, hand); looks != 2*n {
				t.Errorf("%d frames, the hand at %d: %d looks", n, hand, looks)
			}
		}
	}
}

// One that is referred to stays at a first turn, and goes at a later one, if
// nobody refers to it again.
func TestReferredToIsPassedByOnce(t *testing.T) {
	for n := 2; n <= 20; n++ {
		for hand := range n {
			l := slices.Repeat(row("u--0"), n)
			l[hand].Ref = true
			victim, behind, now, is := clock.Turn(l, hand)
			if victim != (hand+1)%n || behind != (hand+2)%n || !is || now[hand].Ref {
				t.Fatalf("%d frames, the hand at %d: %d, %d, %+v, %t", n, hand, victim, behind, now, is)
			}
			for range n - 2 {
				if victim, behind, now, _ = clock.Turn(now, behind); victim == hand {
					t.Fatalf("%d frames: %d goes ahead of the others", n, hand)
				}
			}
			if victim, _, _, is = clock.Turn(now, behind); victim != hand || !is {
				t.Fatalf("%d frames: %d goes, not %d", n, victim, hand)
			}
		}
	}
}

// One that is referred to again ahead of each turn never goes, while another
// one is not.
func TestReferredToAgainAndAgain(t *testing.T) {
	l, hand := slices.Repeat(row("u--0"), 6), 4
	for k := range 50 {
		l[2].Ref = true
		victim, behind, now, is := clock.Turn(l, hand)
		if victim == 2 || !is {
			t.Fatalf("turn %d: %d, %t", k, victim, is)
		}
		l, hand = now, behind
	}
}

// R4

// odd is what stands in the room behind a list.
var odd = frame.Flags{Used: true, Dirty: true, Ref: true, Pins: 77}

// roomy is a list with spare room, which holds odd flags.
func roomy(l []frame.Flags, room int) []frame.Flags {
	whole := append(slices.Clone(l), slices.Repeat([]frame.Flags{odd}, room)...)
	return whole[:len(l):len(whole)]
}

// spoil writes into a list and all of its room, and puts more behind it.
func spoil(l []frame.Flags) {
	whole := l[:cap(l)]
	for i := range whole {
		f := &whole[i]
		f.Used, f.Dirty, f.Ref, f.Pins = !f.Used, !f.Dirty, !f.Ref, f.Pins+1
	}
	l = append(l, odd, odd)
	for i := range l {
		l[i] = frame.Flags{Pins: 33}
	}
}

func TestWhatIsHandedInStays(t *testing.T) {
	check := func(l []frame.Flags, hand int) {
		for _, room := range []int{0, 1, 9} {
			in := roomy(l, room)
			whole := slices.Clone(in[:cap(in)])
			one := tell(in, hand)
			if !slices.Equal(in[:cap(in)], whole) {
				t.Fatalf("%+v, the hand at %d: behind the calls %+v", whole, hand, in[:cap(in)])
			}
			kept := slices.Clone(one.flags)
			if spoil(in); !slices.Equal(one.flags, kept) {
				t.Fatalf("%+v, the hand at %d: what was told hangs on what was handed in", l, hand)
			}
		}
	}
	for n := 1; n <= 2; n++ {
		eachList(allFlags(0, 1, 100), n, check)
	}
	drawnLists(8, check)
}

// What is told is new, where there is no victim too, and where nothing is
// changed.
func TestWhatIsToldIsNew(t *testing.T) {
	check := func(l []frame.Flags, hand int) {
		in := roomy(l, 5)
		whole := slices.Clone(in[:cap(in)])
		_, _, one, _ := clock.Turn(in, hand)
		_, _, two, _ := clock.Turn(in, hand)
		kept := slices.Clone(two)
		if spoil(one); !slices.Equal(in[:cap(in)], whole) || !slices.Equal(two, kept) {
			t.Fatalf("%+v, the hand at %d: what was told is not its own", l, hand)
		}
		if spoil(two); !slices.Equal(in[:cap(in)], whole) {
			t.Fatalf("%+v, the hand at %d: what was told is what was handed in", l, hand)
		}
	}
	for n := 1; n <= 2; n++ {
		eachList(allFlags(0, 1, 100), n, check)
	}
	drawnLists(9, check)
	check(row("udr1", "u--8"), 1)
	check(row("---0", "u--0"), 0)
}

// R5

func TestTheSameCallsTellTheSame(t *testing.T) {
	drawnLists(10, func(l []frame.Flags, hand int) {
		one := tell(l, hand)
		tell(drawn(rand.New(rand.NewSource(int64(hand))), 9), hand%9)
		if two := tell(roomy(l, 7), hand); !same(one, two) {
			t.Fatalf("%+v, the hand at %d: %+v, then %+v", l, hand, one, two)
		}
	})
}

// Where the frames' numbers begin tells nothing: turned by k, with the hand,
// they tell the same, turned by k.
func TestTurnedLists(t *testing.T) {
	drawnLists(11, func(l []frame.Flags, hand int) {
		n := len(l)
		one := tell(l, hand)
		for _, k := range []int{1, n / 2, n - 1} {
			two := tell(append(slices.Clone(l[k%n:]), l[:k%n]...), (hand-k+n)%n)
			if one.is != two.is || one.looks != two.looks || one.free != two.free {
				t.Fatalf("%+v, the hand at %d, turned by %d: %+v, then %+v", l, hand, k, one, two)
			}
			if one.is && (two.victim+k)%n != one.victim {
				t.Fatalf("%+v, the hand at %d, turned by %d: the victim %d, then %d", l, hand, k, one.victim, two.victim)
			}
		}
	})
}

// R1

// Of hands, lists and pins that the chapter does not allow nothing is promised
// but that the calls end and do not panic, and that R4 holds.
func TestWhatIsNotAllowed(t *testing.T) {
	lists := [][]frame.Flags{nil, {}, roomy(nil, 4), row("u--0"), row("---0", "u-r0", "u--1"), row("udr1", "udr1"), {{Used: true, Pins: -1}}, {{Used: true, Ref: true, Pins: math.MinInt}, odd}}
	for _, l := range lists {
		for _, hand := range []int{math.MinInt, -4, -3, -2, -1, 0, 1, 2, 3, 4, 1 << 31, 1 << 32, math.MaxInt - 1, math.MaxInt} {
			in := roomy(l, 3)
			x := tell(in, hand)
			if !slices.Equal(in, l) || len(x.flags) != len(l) {
				t.Errorf("%+v, the hand at %d: %+v", l, hand, x)
			}
			if spoil(x.flags); !slices.Equal(in, l) {
				t.Errorf("%+v, the hand at %d: what was told is what was handed in", l, hand)
			}
		}
	}
}

// A nil list is an empty one: none goes, and the hand is told as it was.
func TestNoFrames(t *testing.T) {
	hold(t, nil, 0, told{})
	hold(t, []frame.Flags{}, 0, told{})
}

// A fuzz test

// readFlags is a list as bytes write it, one each.
func readFlags(b []byte) []frame.Flags {
	l := make([]frame.Flags, len(b))
	for i, x := range b {
		l[i] = frame.Flags{Used: x&1 != 0, Dirty: x&2 != 0, Ref: x&4 != 0, Pins: int(x>>3) &^ 3}
	}
	return l
}

func FuzzTurn(f *testing.F) {
	f.Add([]byte{5, 5}, 1)
	f.Add([]byte{0}, 0)
	f.Add([]byte{37, 5, 36, 33}, 3)
	f.Add([]byte{37, 39, 33}, 2)
	f.Add([]byte{}, -1)
	f.Fuzz(func(t *testing.T, b []byte, hand int) {
		l := readFlags(b)
		if hand < 0 || hand >= len(l) {
			tell(l, hand)
			return
		}
		for range 3 {
			want := expected(l, hand)
			hold(t, l, hand, want)
			wantChanges(t, l, hand)
			wantVictim(t, l, hand)
			l, hand = want.flags, want.hand
		}
	})
}
