package rights_test

import (
	"math"
	"math/rand"
	"slices"
	"strings"
	"testing"

	"allotment/api"
	"allotment/rights"
)

// four are the names, in the chapter's row: that of the bit i at i.
func four() []string { return []string{"see", "change", "keep", "give"} }

// sixteen are all sets that may be.
func sixteen() []rights.Set {
	var l []rights.Set
	for s := range 16 {
		l = append(l, rights.Set(s))
	}
	return l
}

// others are sets with another bit: of each bit alone, with all rights, and
// with one of them; of numbers below 0; and far beyond either end.
func others() []rights.Set {
	var l []rights.Set
	for i := 4; i < 64; i++ {
		other := rights.Set(1) << i
		l = append(l, other, other|1, other|8, other|15, -other)
	}
	for n := 1; n <= 40; n++ {
		l = append(l, rights.Set(-n), rights.Set(15+n))
	}
	return append(l, 255, 256, 1<<32+5, 1<<32, -1<<32, math.MaxInt, math.MinInt, math.MinInt+5)
}

// bit says whether a set has the bit i, by sums alone: what is left of it by
// twice that bit is at least that bit.
func bit(s rights.Set, i int) bool {
	size := 1 << i
	left := int(s) % (2 * size)
	if left < 0 {
		left += 2 * size
	}
	return left >= size
}

// namesOf is what Names must tell of a set.
func namesOf(s rights.Set) []string {
	var l []string
	for i, name := range four() {
		if bit(s, i) {
			l = append(l, name)
		}
	}
	return l
}

// setOf is what Parse must tell of names: none, and false, if one is no name.
func setOf(names []string) (rights.Set, bool) {
	own := [4]bool{}
	for _, name := range names {
		i := slices.Index(four(), name)
		if i < 0 {
			return 0, false
		}
		own[i] = true
	}
	sum := 0
	for i, is := range own {
		if is {
			sum += []int{1, 2, 4, 8}[i]
		}
	}
	return rights.Set(sum), true
}

// has is what Has must tell of sets that may be.
func has(s, need rights.Set) bool {
	for i := range 4 {
		if bit(need, i) && !bit(s, i) {
			return false
		}
	}
	return true
}

// together is what Of must tell of sets that may be.
func together(l []rights.Set) rights.Set {
	var names []string
	for _, s := range l {
		names = append(names, namesOf(s)...)
	}
	s, _ := setOf(names)
	return s
}

// needs is what each operation needs, as the chapter says it.
func needs() map[int]rights.Set {
	return map[int]rights.Set{
		api.Fetch: rights.See, api.Read: rights.See, api.Unpin: rights.See, api.Stats: rights.See,
		api.Write: rights.Change, api.Discard: rights.Change,
		api.Flush: rights.Keep, api.FlushAll: rights.Keep,
	}
}

// noOperations are numbers that are no operations.
func noOperations() []int {
	return []int{api.Fetch - 1, api.Stats + 1, 0, 9, -1, -2, -8, 10, 16, 255, 256, 257, 264, 1 << 31, 1<<32 + 1, 1<<32 + 8, -1 << 32, math.MaxInt, math.MinInt, math.MinInt + 1}
}

// noNames are words that are no names.
func noNames() []string {
	l := []string{"", " ", "x", "-", "0", "1", "15", "all", "none", "read", "fetch", "rights", "seechange", "see change", "see,keep", "sea", "changes", "keeper", "\xff", "\x00", "s\u00e9e", strings.Repeat("see", 1000)}
	for _, name := range four() {
		l = append(l, strings.ToUpper(name), strings.ToUpper(name[:1])+name[1:], name[:len(name)-1]+strings.ToUpper(name[len(name)-1:]))
		for _, sign := range []string{" ", "\n", "\t", "\x00", ".", ",", "-", "+", "!", "x"} {
			l = append(l, name+sign, sign+name)
		}
		l = append(l, name[1:], name[:len(name)-1], name+name)
	}
	return l
}

// rows hands all rows of a list to do.
func rows[E any](l []E, do func([]E)) {
	var from func(at int)
	from = func(at int) {
		if at == len(l) {
			do(l)
			return
		}
		for i := at; i < len(l); i++ {
			l[at], l[i] = l[i], l[at]
			from(at + 1)
			l[at], l[i] = l[i], l[at]
		}
	}
	from(0)
}

// wantParse holds what Parse tells of names against what it must tell.
func wantParse(t *testing.T, names ...string) {
	t.Helper()
	want, is := setOf(names)
	e := api.OK
	if !is {
		e = api.ErrForm
	}
	if s, got := rights.Parse(names...); s != want || got != e {
		t.Errorf("Parse of %q: %d, %d, want %d, %d", names, s, got, want, e)
	}
}

// P16.1

// Each is held with its type, as a comparison of any is.
func TestRightsAreBits(t *testing.T) {
	if got := [4]any{rights.See, rights.Change, rights.Keep, rights.Give}; got != [4]any{rights.Set(1), rights.Set(2), rights.Set(4), rights.Set(8)} {
		t.Error(got)
	}
}

func TestMayOfAllSixteen(t *testing.T) {
	for _, s := range sixteen() {
		if !rights.May(s) {
			t.Errorf("%d may not be", s)
		}
	}
}

func TestMayNotWithAnotherBit(t *testing.T) {
	for _, s := range others() {
		if rights.May(s) {
			t.Errorf("%d may be", s)
		}
	}
}

func TestAll(t *testing.T) {
	if got := rights.All(); got != 15 {
		t.Error(got)
	}
}

func TestOfNone(t *testing.T) {
	for _, got := range []rights.Set{rights.Of(), rights.Of(nil...), rights.Of([]rights.Set{}...)} {
		if got != 0 {
			t.Error(got)
		}
	}
}

// Of one set, and of the same one twice and more often, it is that one: what
// two have is not counted twice.
func TestOfOneAndTheSame(t *testing.T) {
	for _, s := range sixteen() {
		for n := 1; n <= 20; n++ {
			if got := rights.Of(slices.Repeat([]rights.Set{s}, n)...); got != s {
				t.Errorf("%d, %d times: %d", s, n, got)
			}
		}
	}
}

func TestOfTwoAndThree(t *testing.T) {
	for _, a := range sixteen() {
		for _, b := range sixteen() {
			if got := rights.Of(a, b); got != together([]rights.Set{a, b}) {
				t.Errorf("%d and %d: %d", a, b, got)
			}
			for _, c := range sixteen() {
				if got := rights.Of(a, b, c); got != together([]rights.Set{a, b, c}) {
					t.Errorf("%d, %d and %d: %d", a, b, c, got)
				}
			}
		}
	}
}

func TestOfMany(t *testing.T) {
	rnd := rand.New(rand.NewSource(16))
	for range 2000 {
		l := make([]rights.Set, rnd.Intn(12))
		for i := range l {
			l[i] = rights.Set(rnd.Intn(16))
		}
		if got := rights.Of(l...); got != together(l) {
			t.Fatalf("%v: %d", l, got)
		}
	}
	if got := rights.Of(append(slices.Repeat([]rights.Set{2}, 1<<16), 8)...); got != 10 {
		t.Error(got)
	}
}

// A set that may not be does not come to be one that may by others beside it.
func TestOfSuchAsMayNotBe(t *testing.T) {
	for _, s := range others() {
		for _, own := range sixteen() {
			for _, l := range [][]rights.Set{{s}, {s, own}, {own, s}, {own, s, 0}} {
				got := rights.Of(l...)
				if rights.May(got) {
					t.Errorf("%v: %d may be", l, got)
				}
				for _, one := range l {
					if !rights.Has(got, one) {
						t.Errorf("%v: %d has not all of %d", l, got, one)
					}
				}
			}
		}
	}
}

func TestHasOfEachWithEach(t *testing.T) {
	for _, s := range sixteen() {
		for _, need := range sixteen() {
			if got := rights.Has(s, need); got != has(s, need) {
				t.Errorf("%d, and %d is needed: %t", s, need, got)
			}
		}
		if !rights.Has(s, 0) || !rights.Has(s, s) || !rights.Has(15, s) || rights.Has(0, s) != (s == 0) {
			t.Errorf("%d at an edge", s)
		}
	}
}

// Each bit of need counts, be it a right or not.
func TestHasOfAnotherBit(t *testing.T) {
	for _, s := range sixteen() {
		for _, need := range others() {
			if rights.Has(s, need) {
				t.Errorf("%d has all of %d", s, need)
			}
		}
	}
	for _, s := range others() {
		if !rights.Has(s, s) || !rights.Has(s, 0) || !rights.Has(-1, s) {
			t.Errorf("%d has not its own", s)
		}
		for i := range 4 {
			if got := rights.Has(s, 1<<i); got != bit(s, i) {
				t.Errorf("%d has %d: %t", s, 1<<i, got)
			}
		}
	}
}

// P16.2

func TestNeedsOfEachOperation(t *testing.T) {
	want := needs()
	if len(want) != 8 {
		t.Fatal(want)
	}
	for op := api.Fetch; op <= api.Stats; op++ {
		if s, is := rights.Needs(op); s != want[op] || !is {
			t.Errorf("the operation %d: %d, %t", op, s, is)
		}
	}
}

// Beside a false there are none (R2).
func TestNeedsOfNoOperation(t *testing.T) {
	for _, op := range noOperations() {
		if s, is := rights.Needs(op); s != 0 || is {
			t.Errorf("the operation %d: %d, %t", op, s, is)
		}
	}
	for op := -300; op <= 300; op++ {
		_, want := needs()[op]
		if s, is := rights.Needs(op); is != want || is != (s != 0) {
			t.Errorf("the operation %d: %d, %t", op, s, is)
		}
	}
}

func TestNamesOfSome(t *testing.T) {
	for s, want := range map[rights.Set]string{
		5: "see keep", // the chapter's example
		0: "", 1: "see", 2: "change", 4: "keep", 8: "give", 9: "see give", 14: "change keep give", 15: "see change keep give",
	} {
		if got := strings.Join(rights.Names(s), " "); got != want {
			t.Errorf("the names of %d: %q", s, got)
		}
	}
}

func TestNamesOfEach(t *testing.T) {
	for _, s := range sixteen() {
		if got := rights.Names(s); !slices.Equal(got, namesOf(s)) {
			t.Errorf("the names of %d: %q", s, got)
		}
	}
}

// Names promises nothing of sets that may not be, but it ends.
func TestNamesOfSuchAsMayNotBe(t *testing.T) {
	for _, s := range others() {
		for _, name := range rights.Names(s) {
			if !slices.Contains(four(), name) {
				t.Errorf("a name of %d: %q", s, name)
			}
		}
	}
}

func TestParseOfNone(t *testing.T) {
	for _, l := range [][]string{nil, {}, make([]string, 0, 9)} {
		if s, e := rights.Parse(l...); s != 0 || e != api.OK {
			t.Error(s, e)
		}
	}
}

func TestParseOfOneName(t *testing.T) {
	for name, want := range map[string]rights.Set{"see": rights.See, "change": rights.Change, "keep": rights.Keep, "give": rights.Give} {
		for n := 1; n <= 20; n++ {
			if s, e := rights.Parse(slices.Repeat([]string{name}, n)...); s != want || e != api.OK {
				t.Errorf("%s, %d times: %d, %d", name, n, s, e)
			}
		}
	}
}

// All lists of up to six of the names, in whatever row, some of them twice and
// more often.
func TestParseInWhateverRow(t *testing.T) {
	var from func(l []string)
	from = func(l []string) {
		wantParse(t, l...)
		if len(l) == 6 {
			return
		}
		for _, name := range four() {
			from(append(l, name))
		}
	}
	from(nil)
}

func TestParseOfNoName(t *testing.T) {
	for _, word := range noNames() {
		if slices.Contains(four(), word) {
			t.Fatalf("%q is a name", word)
		}
		if s, e := rights.Parse(word); s != 0 || e != api.ErrForm {
			t.Errorf("%q: %d, %d", word, s, e)
		}
	}
}

// One that is no name is enough, at whatever place; beside ErrForm there are no
// rights, of the names ahead of it neither (R2).
func TestParseOfNoNameAmongOthers(t *testing.T) {
	for _, l := range [][]string{{"see"}, {"give", "see"}, four(), {"keep", "keep", "change", "see", "give", "keep"}} {
		for _, word := range noNames() {
			for at := range len(l) + 1 {
				names := slices.Insert(slices.Clone(l), at, word)
				if s, e := rights.Parse(names...); s != 0 || e != api.ErrForm {
					t.Errorf("%q: %d, %d", names, s, e)
				}
				if s, e := rights.Parse(append(names, word)...); s != 0 || e != api.ErrForm {
					t.Errorf("%q and one more: %d, %d", names, s, e)
				}
			}
		}
	}
}

func TestParseOfMany(t *testing.T) {
	l := slices.Repeat([]string{"keep"}, 1<<16)
	if s, e := rights.Parse(append(l, "see")...); s != 5 || e != api.OK {
		t.Error(s, e)
	}
	if s, e := rights.Parse(append(l, "See")...); s != 0 || e != api.ErrForm {
		t.Error(s, e)
	}
}

// P16.3

func TestNamesAreReadAsTheyWereTold(t *testing.T) {
	for _, s := range sixteen() {
		names := rights.Names(s)
		if got, e := rights.Parse(names...); got != s || e != api.OK {
			t.Errorf("%d, told as %q: %d, %d", s, names, got, e)
		}
		if got, e := rights.Parse(append(names, names...)...); got != s || e != api.OK {
			t.Errorf("%d, told twice: %d, %d", s, got, e)
		}
		rows(names, func(row []string) {
			if got, e := rights.Parse(row...); got != s || e != api.OK {
				t.Errorf("%d, told as %q: %d, %d", s, row, got, e)
			}
		})
	}
}

// Names of two sets, read one behind the other, are those of the two together.
func TestNamesOfTwoAreReadTogether(t *testing.T) {
	for _, a := range sixteen() {
		for _, b := range sixteen() {
			if got, e := rights.Parse(append(rights.Names(a), rights.Names(b)...)...); got != rights.Of(a, b) || e != api.OK {
				t.Errorf("%d and %d: %d, %d", a, b, got, e)
			}
		}
	}
}

func TestMoreRightsLetDoAllThatFewerDo(t *testing.T) {
	for _, fewer := range sixteen() {
		for _, other := range sixteen() {
			more := rights.Of(fewer, other)
			if !rights.Has(more, fewer) || !rights.May(more) {
				t.Fatalf("%d and %d: %d", fewer, other, more)
			}
			for op := api.Fetch; op <= api.Stats; op++ {
				need, _ := rights.Needs(op)
				if rights.Has(fewer, need) && !rights.Has(more, need) {
					t.Errorf("%d is let do %d, and %d is not", fewer, op, more)
				}
			}
			for _, need := range sixteen() {
				if rights.Has(fewer, need) && !rights.Has(more, need) {
					t.Errorf("%d has %d, and %d has not", fewer, need, more)
				}
			}
		}
	}
}

// Each operation is let by its own right, and by nothing without it.
func TestEachOperationIsLetByItsRight(t *testing.T) {
	for op := api.Fetch; op <= api.Stats; op++ {
		need, _ := rights.Needs(op)
		for _, s := range sixteen() {
			if got := rights.Has(s, need); got != has(s, needs()[op]) {
				t.Errorf("%d is let do %d: %t", s, op, got)
			}
		}
		if !rights.Has(rights.All(), need) || rights.Has(0, need) || rights.Has(rights.Give, need) {
			t.Errorf("the operation %d at an edge", op)
		}
	}
}

// R4

// What is handed in is not changed, its spare room neither, and it may be
// another one behind the call.
func TestSetsHandedInAreLeft(t *testing.T) {
	for _, room := range []int{0, 1, 20} {
		for n := range 6 {
			whole := slices.Repeat([]rights.Set{1, 4, 1, 8, 2}, 6)[:n+room]
			was := slices.Clone(whole)
			got := rights.Of(whole[:n]...)
			if got != together(was[:n]) || !slices.Equal(whole, was) {
				t.Fatalf("Of told %d, and left %v of %v", got, whole, was)
			}
			clear(whole)
			if again := rights.Of(whole[:n]...); again != 0 {
				t.Errorf("Of keeps what was handed in: %d", again)
			}
		}
	}
}

func TestNamesHandedInAreLeft(t *testing.T) {
	for _, room := range []int{0, 1, 20} {
		for _, l := range [][]string{{}, {"see"}, {"give", "see", "give"}, {"keep", "x", "see"}, {"", "change"}} {
			whole := append(slices.Clone(l), slices.Repeat([]string{"keep"}, room)...)
			was := slices.Clone(whole)
			wantParse(t, whole[:len(l)]...)
			if !slices.Equal(whole, was) {
				t.Fatalf("Parse left %q of %q", whole, was)
			}
			for i := range whole {
				whole[i] = "change"
			}
			wantParse(t, whole[:len(l)]...)
			wantParse(t, l...)
		}
	}
}

// What Names tells is new: spoilt, and filled up to the end of its spare room,
// it changes nothing that is told earlier or later.
func TestNamesAreNew(t *testing.T) {
	for _, s := range sixteen() {
		first, again := rights.Names(s), rights.Names(s)
		for _, l := range [][]string{first[:cap(first)], rights.Names(15)} {
			for i := range l {
				l[i] = "spoilt"
			}
		}
		if !slices.Equal(again, namesOf(s)) || !slices.Equal(rights.Names(s), namesOf(s)) {
			t.Errorf("the names of %d: %q, then %q", s, again, rights.Names(s))
		}
		for _, other := range sixteen() {
			if got := rights.Names(other); !slices.Equal(got, namesOf(other)) {
				t.Errorf("the names of %d: %q", other, got)
			}
			wantParse(t, namesOf(other)...)
		}
	}
}

// R5

// The same calls tell the same, whatever was called between them, and whatever
// room is behind what is handed in.
func TestTheSameCallsTellTheSame(t *testing.T) {
	rnd := rand.New(rand.NewSource(5))
	words := append(four(), four()...)
	words = append(words, "", "See")
	for range 3000 {
		s, need, op := rights.Set(rnd.Intn(16)), rights.Set(rnd.Intn(16)), rnd.Intn(12)-1
		names := make([]string, rnd.Intn(6))
		for i := range names {
			names[i] = words[rnd.Intn(len(words))]
		}
		first := seen(s, need, op, names)
		seen(need, rights.Set(rnd.Intn(16)), rnd.Intn(12)-1, words[rnd.Intn(len(words)):])
		if again := seen(s, need, op, slices.Grow(slices.Clone(names), rnd.Intn(40))); again != first {
			t.Fatalf("%d, %d, %d, %q: told %+v, then %+v", s, need, op, names, first, again)
		}
	}
}

// told is what all calls tell.
type told struct {
	may, has, is      bool
	all, of, needs, p rights.Set
	names             string
	e                 api.Errno
}

// seen asks all calls.
func seen(s, need rights.Set, op int, names []string) told {
	x := told{may: rights.May(s), has: rights.Has(s, need), all: rights.All(), of: rights.Of(s, need), names: strings.Join(rights.Names(s), " ")}
	x.needs, x.is = rights.Needs(op)
	x.p, x.e = rights.Parse(names...)
	return x
}

// FuzzRights holds all calls against the sums above.
func FuzzRights(f *testing.F) {
	f.Add(5, 4, 1, "see keep")
	f.Add(16, 0, 8, "give give")
	f.Add(-1, 15, 0, "see See")
	f.Add(0, -16, 9, "")
	f.Fuzz(func(t *testing.T, a, b, op int, text string) {
		s, need := rights.Set(a), rights.Set(b)
		if got := rights.May(s); got != (a >= 0 && a <= 15) {
			t.Fatal(a, got)
		}
		want, is := needs()[op]
		if got, known := rights.Needs(op); got != want || known != is {
			t.Fatal(op, got, known)
		}
		wantParse(t, strings.Split(text, " ")...)
		wantParse(t, strings.Fields(text)...)
		if !rights.May(s) || !rights.May(need) {
			return
		}
		if got := rights.Of(s, need); got != together([]rights.Set{s, need}) {
			t.Fatal(a, b, got)
		}
		if got := rights.Has(s, need); got != has(s, need) {
			t.Fatal(a, b, got)
		}
		if got := rights.Names(s); !slices.Equal(got, namesOf(s)) {
			t.Fatal(a, got)
		}
	})
}
