package count_test

import (
	"math"
	"math/big"
	"math/rand"
	"slices"
	"testing"

	"allotment/api"
	"allotment/count"
)

const end = math.MaxUint64

// byKind are counts as the chapter numbers them.
type byKind [6]uint64

// of is the counts of numbers by their kinds.
func (l byKind) of() api.Counts {
	return api.Counts{Hits: l[0], Misses: l[1], Evicts: l[2], Reads: l[3], Writes: l[4], Fails: l[5]}
}

// edges are numbers at both ends, and between them.
func edges() []uint64 {
	return []uint64{0, 1, 2, 5, 1<<31 - 1, 1 << 32, 1<<63 - 1, 1 << 63, 1<<63 + 1, end - 5, end - 4, end - 2, end - 1, end}
}

// noKinds are numbers that are no kinds.
func noKinds() []int {
	return []int{-1, -2, -6, 6, 7, 12, 255, 256, 261, 1 << 31, 1<<32 + 3, -1 << 32, math.MaxInt, math.MinInt, math.MinInt + 5}
}

// someCounts are counts in which no two numbers are the same, and such with
// one number or all of them at an edge.
func someCounts() []api.Counts {
	l := []api.Counts{{}, byKind{10, 20, 30, 40, 50, 60}.of(), byKind{end, end - 1, end - 2, 3, 2, 1}.of()}
	for _, n := range edges() {
		l = append(l, byKind{n, n, n, n, n, n}.of())
		for kind := range 6 {
			one := byKind{11, 12, 13, 14, 15, 16}
			one[kind] = n
			l = append(l, one.of())
		}
	}
	return l
}

// together is what the numbers are together, told by numbers without an end.
func together(l ...uint64) uint64 {
	all := new(big.Int)
	for _, n := range l {
		all.Add(all, new(big.Int).SetUint64(n))
	}
	if !all.IsUint64() {
		return end
	}
	return all.Uint64()
}

// apart is counts by their kinds.
func apart(c api.Counts) byKind {
	return byKind{c.Hits, c.Misses, c.Evicts, c.Reads, c.Writes, c.Fails}
}

// sumOf is what Sum must tell of counts.
func sumOf(l []api.Counts) api.Counts {
	var all byKind
	for kind := range all {
		var numbers []uint64
		for _, c := range l {
			numbers = append(numbers, apart(c)[kind])
		}
		all[kind] = together(numbers...)
	}
	return all.of()
}

// fell says whether one of the counts is less than it was.
func fell(was, is api.Counts) bool {
	a, b := apart(was), apart(is)
	for kind := range a {
		if b[kind] < a[kind] {
			return true
		}
	}
	return false
}

// P4.1

func TestKindsAreNumbered(t *testing.T) {
	kinds := []int{count.Hits, count.Misses, count.Evicts, count.Reads, count.Writes, count.Fails}
	if !slices.Equal(kinds, []int{0, 1, 2, 3, 4, 5}) {
		t.Error(kinds)
	}
}

func TestAddToEachKind(t *testing.T) {
	for kind, want := range []api.Counts{{Hits: 7}, {Misses: 7}, {Evicts: 7}, {Reads: 7}, {Writes: 7}, {Fails: 7}} {
		if got := count.Add(api.Counts{}, kind, 7); got != want {
			t.Errorf("7 more of the kind %d: %v", kind, got)
		}
	}
}

func TestAddLeavesTheOtherKinds(t *testing.T) {
	for _, c := range someCounts() {
		for kind := range 6 {
			for _, n := range edges() {
				want := apart(c)
				want[kind] = together(want[kind], n)
				if got := count.Add(c, kind, n); got != want.of() {
					t.Fatalf("%d more of the kind %d of %v: %v", n, kind, c, got)
				}
			}
		}
	}
}

func TestAddStaysAtTheEnd(t *testing.T) {
	for _, x := range []struct{ has, more, want uint64 }{
		{end - 1, 5, end}, // the chapter's example
		{end - 5, 5, end},
		{end - 5, 4, end - 1},
		{end - 5, 6, end},
		{end - 1, 1, end},
		{end - 1, 2, end},
		{end, 0, end},
		{end, 1, end},
		{end, end, end},
		{0, end, end},
		{1, end, end},
		{0, end - 1, end - 1},
		{1, end - 1, end},
		{2, end - 1, end},
		{1<<63 - 1, 1 << 63, end},
		{1 << 63, 1 << 63, end},
		{1 << 63, 1<<63 + 1, end},
	} {
		for kind := range 6 {
			has, want := byKind{9, 8, 7, 6, 5, 4}, byKind{9, 8, 7, 6, 5, 4}
			has[kind], want[kind] = x.has, x.want
			if got := count.Add(has.of(), kind, x.more); got != want.of() {
				t.Errorf("%d and %d more of the kind %d: %v", x.has, x.more, kind, got)
			}
		}
	}
}

func TestAddOfNone(t *testing.T) {
	for _, c := range someCounts() {
		for kind := range 6 {
			if got := count.Add(c, kind, 0); got != c {
				t.Errorf("0 more of the kind %d of %v: %v", kind, c, got)
			}
		}
	}
}

func TestAddToNoKind(t *testing.T) {
	for _, c := range someCounts() {
		for _, kind := range noKinds() {
			for _, n := range edges() {
				if got := count.Add(c, kind, n); got != c {
					t.Fatalf("%d more of the kind %d of %v: %v", n, kind, c, got)
				}
			}
		}
	}
}

func TestGetEachKind(t *testing.T) {
	for _, c := range someCounts() {
		for kind, want := range apart(c) {
			if n, is := count.Get(c, kind); n != want || !is {
				t.Errorf("the kind %d of %v: %d, %v", kind, c, n, is)
			}
		}
	}
}

// Beside a false the number is 0 (R2), whatever the counts are.
func TestGetNoKind(t *testing.T) {
	for _, c := range someCounts() {
		for _, kind := range noKinds() {
			if n, is := count.Get(c, kind); n != 0 || is {
				t.Errorf("the kind %d of %v: %d, %v", kind, c, n, is)
			}
		}
	}
}

// P4.2

func TestSumOfNone(t *testing.T) {
	none := []api.Counts{count.Sum(), count.Sum(nil...), count.Sum([]api.Counts{}...)}
	for _, got := range none {
		if got != (api.Counts{}) {
			t.Error(got)
		}
	}
}

func TestSumOfOne(t *testing.T) {
	for _, c := range someCounts() {
		if got := count.Sum(c); got != c {
			t.Errorf("the sum of %v: %v", c, got)
		}
	}
}

func TestSumOfTwo(t *testing.T) {
	for _, a := range someCounts() {
		for _, b := range someCounts() {
			if got := count.Sum(a, b); got != sumOf([]api.Counts{a, b}) {
				t.Fatalf("the sum of %v and %v: %v", a, b, got)
			}
		}
	}
}

func TestSumOfMore(t *testing.T) {
	a, b, c := byKind{1, 2, 3, 4, 5, 6}.of(), byKind{10, 20, 30, 40, 50, 60}.of(), byKind{100, 200, 300, 400, 500, 600}.of()
	if got := count.Sum(a, b, c); got != (byKind{111, 222, 333, 444, 555, 666}).of() {
		t.Error(got)
	}
	rnd := rand.New(rand.NewSource(4))
	some := someCounts()
	for range 500 {
		l := make([]api.Counts, rnd.Intn(9))
		for i := range l {
			l[i] = some[rnd.Intn(len(some))]
		}
		if got := count.Sum(l...); got != sumOf(l) {
			t.Fatalf("the sum of %v: %v", l, got)
		}
	}
}

func TestSumStaysAtTheEnd(t *testing.T) {
	half, most := uint64(1<<63), uint64(end)
	for _, x := range []struct {
		l    []uint64
		want uint64
	}{
		{[]uint64{end - 1, 1}, end},
		{[]uint64{end - 1, 2}, end},
		{[]uint64{1, end - 1, 1}, end},
		{[]uint64{most, 0, 0}, end},
		{[]uint64{0, 0, most}, end},
		{[]uint64{most, most, most}, end},
		{[]uint64{half, half}, end},
		{[]uint64{half, half - 1}, end},
		{[]uint64{half, half - 2}, end - 1},
		{[]uint64{half, half, half, half}, end}, // it would go round to 0 twice
		{[]uint64{half, half, 3}, end},
	} {
		for kind := range 6 {
			l, want := make([]api.Counts, len(x.l)), byKind{}
			for i, n := range x.l {
				one := byKind{1, 1, 1, 1, 1, 1}
				one[kind] = n
				l[i] = one.of()
			}
			for other := range want {
				want[other] = uint64(len(x.l))
			}
			want[kind] = x.want
			if got := count.Sum(l...); got != want.of() {
				t.Errorf("the sum of %v: %v", l, got)
			}
		}
	}
}

func TestSumOfMany(t *testing.T) {
	l := slices.Repeat([]api.Counts{byKind{1, 0, 1 << 40, 1 << 48, 1 << 49, end}.of()}, 1<<15)
	if got := count.Sum(l...); got != (byKind{1 << 15, 0, 1 << 55, 1 << 63, end, end}).of() {
		t.Error(got)
	}
}

func TestNameOfEachKind(t *testing.T) {
	for kind, want := range map[int]string{count.Hits: "hits", count.Misses: "misses", count.Evicts: "evicts", count.Reads: "reads", count.Writes: "writes", count.Fails: "fails"} {
		if got := count.Name(kind); got != want {
			t.Errorf("the name of %d: %q", kind, got)
		}
	}
}

func TestNameOfNoKind(t *testing.T) {
	for _, kind := range noKinds() {
		if got := count.Name(kind); got != "" {
			t.Errorf("the name of %d: %q", kind, got)
		}
	}
}

// P4.3

// more is a number of a kind that is added.
type more struct {
	kind int
	n    uint64
}

// addAll adds one behind the other, and holds that no number falls.
func addAll(t *testing.T, c api.Counts, l []more) api.Counts {
	t.Helper()
	for _, x := range l {
		is := count.Add(c, x.kind, x.n)
		if fell(c, is) {
			t.Fatalf("%v fell to %v", c, is)
		}
		c = is
	}
	return c
}

// rows hands all rows of a list to do.
func rows[E any](l []E, do func([]E)) {
	var from func(at int)
	from = func(at int) {
		if at == len(l) {
			do(l)
			return
		}
		for i := at; i < len(l); i++ {
			l[at], l[i] = l[i], l[at]
			from(at + 1)
			l[at], l[i] = l[i], l[at]
		}
	}
	from(0)
}

func TestInWhateverRowNumbersAreAdded(t *testing.T) {
	for _, l := range [][]more{
		{{0, end - 1}, {0, 5}, {0, 1}, {0, 0}, {0, end}},
		{{5, 1 << 63}, {5, 1 << 63}, {5, 1}, {3, 1}, {5, end - 3}},
		{{1, 1}, {2, 2}, {3, 3}, {4, 4}, {1, 10}, {2, 20}},
		{{4, end - 3}, {4, 1}, {4, 2}, {6, 9}, {-1, 9}, {0, 1}},
		{{4, end - 3}, {4, 1}, {4, 1}, {2, end}, {2, 1}, {2, 0}},
	} {
		for _, c := range []api.Counts{{}, byKind{1, 2, 3, 4, 5, 6}.of(), byKind{end, end - 1, 0, 1 << 63, 2, 1}.of()} {
			want := addAll(t, c, l)
			rows(l, func(row []more) {
				if got := addAll(t, c, row); got != want {
					t.Fatalf("%v and %v more: %v, want %v", c, row, got, want)
				}
			})
		}
	}
}

func TestInWhateverRowCountsAreSummed(t *testing.T) {
	l := []api.Counts{
		byKind{end - 1, 1, 0, 1 << 63, end, 7}.of(),
		byKind{5, end - 5, 1, 1 << 63, end, 0}.of(),
		byKind{0, 4, 2, 1, 1, 70}.of(),
		byKind{1, 1, 3, end, 0, 700}.of(),
		{},
	}
	want := byKind{end, end, 6, end, end, 777}.of()
	rows(l, func(row []api.Counts) {
		if got := count.Sum(row...); got != want {
			t.Fatalf("the sum of %v: %v", row, got)
		}
		for cut := range len(row) + 1 {
			if got := count.Sum(count.Sum(row[:cut]...), count.Sum(row[cut:]...)); got != want {
				t.Fatalf("the sum of %v, cut at %d: %v", row, cut, got)
			}
		}
	})
}

func TestCountersNeverFall(t *testing.T) {
	rnd := rand.New(rand.NewSource(43))
	for range 300 {
		var c api.Counts
		var told [6][]uint64
		for range 60 {
			x := more{rnd.Intn(8) - 1, rnd.Uint64() >> rnd.Intn(64)}
			c = addAll(t, c, []more{x})
			if x.kind >= 0 && x.kind < 6 {
				told[x.kind] = append(told[x.kind], x.n)
			}
			for kind, l := range told {
				if n, is := count.Get(c, kind); n != together(l...) || !is {
					t.Fatalf("%v of the kind %d together: %d, %v", l, kind, n, is)
				}
			}
		}
	}
}

// R4

func TestCountsHandedInAreLeft(t *testing.T) {
	for _, room := range []int{0, 1, 9} {
		some := someCounts()
		whole := append(slices.Clone(some), slices.Repeat([]api.Counts{byKind{1, 2, 3, 4, 5, end}.of()}, room)...)
		own := whole[:len(some):len(whole)]
		was := slices.Clone(whole)
		got := count.Sum(own...)
		if got != sumOf(some) || !slices.Equal(whole, was) {
			t.Fatalf("Sum told %v, and left %v", got, whole)
		}
		clear(whole)
		if again := count.Sum(own...); got != sumOf(some) || again != (api.Counts{}) {
			t.Errorf("Sum keeps what was handed in: %v, %v", got, again)
		}
	}
}

func TestAddAndGetLeaveTheCounts(t *testing.T) {
	for _, c := range someCounts() {
		was := c
		for kind := -1; kind <= 6; kind++ {
			count.Add(c, kind, 3)
			count.Get(c, kind)
		}
		if c != was {
			t.Errorf("%v became %v", was, c)
		}
	}
}

// FuzzAdd holds Add, Get and Sum against numbers without an end.
func FuzzAdd(f *testing.F) {
	f.Add(uint64(end-1), uint64(5), 0)
	f.Add(uint64(end), uint64(0), 5)
	f.Add(uint64(1<<63), uint64(1<<63), 6)
	f.Add(uint64(3), uint64(4), -1)
	f.Fuzz(func(t *testing.T, has, n uint64, kind int) {
		c := byKind{has, has, has, has, has, has}
		want, told, name := c, uint64(0), false
		if kind >= 0 && kind < 6 {
			want[kind], told, name = together(has, n), has, true
		}
		if got := count.Add(c.of(), kind, n); got != want.of() {
			t.Fatal(got)
		}
		if got, is := count.Get(c.of(), kind); got != told || is != name {
			t.Fatal(got, is)
		}
		if got := count.Name(kind); (got != "") != name {
			t.Fatal(got)
		}
		other := byKind{n, has, n, 0, 1, end}
		l := []api.Counts{c.of(), other.of(), want.of()}
		if got := count.Sum(l...); got != sumOf(l) {
			t.Fatal(got)
		}
	})
}
