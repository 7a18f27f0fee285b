package plan_test

import (
	"encoding/binary"
	"fmt"
	"math"
	"math/rand"
	"slices"
	"strings"
	"testing"

	"allotment/plan"
)

// numbers are some of all: 0 and what is near it, edges of what is counted
// here, and both ends.
func numbers() []int {
	return []int{0, 1, 2, 3, 7, 9, 10, 63, 64, 100, 1 << 20, 1<<31 - 1, 1 << 31, 1 << 32, math.MaxInt - 1, math.MaxInt, -1, -2, -3, -9, -10, -63, -64, -100, -1 << 31, -1<<31 - 1, -1 << 32, math.MinInt + 1, math.MinInt}
}

// lists are pages as they may be handed in: none, one, several, the same one
// twice and more often, and rising, falling and mixed rows of them.
func lists() [][]int {
	return [][]int{
		nil, {}, {0}, {5}, {-1}, {63}, {64}, {math.MaxInt}, {math.MinInt},
		{2, 1}, {1, 2}, {0, 0}, {7, 7}, {7, 7, 7}, {1, 2, 1}, {3, 0, 3, 3, 0},
		{0, 1, 2, 3, 4, 5, 6, 7}, {7, 6, 5, 4, 3, 2, 1, 0}, {40, 3, 63, 0, 17, -5, 64},
		{math.MinInt, math.MaxInt, 0, math.MinInt, -1}, numbers(),
	}
}

// row is the numbers from 0 on, so many.
func row(n int) []int {
	l := []int{}
	for page := range n {
		l = append(l, page)
	}
	return l
}

// Steps, written out with the chapter's own numbers.

func loads(page int) []plan.Io { return []plan.Io{{1, page, 0}, {1, page, 1}} }

func stores(pages []int) []plan.Io {
	l := make([]plan.Io, 2*len(pages))
	for i, page := range pages {
		l[2*i] = plan.Io{2, page, 0}
		l[2*i+1] = plan.Io{2, page, 1}
	}
	return l
}

func fetch(page int, dirty bool, old int) []plan.Io {
	l := []plan.Io{{2, old, 0}, {2, old, 1}, {1, page, 0}, {1, page, 1}}
	if dirty {
		return l
	}
	return l[2:]
}

func flush(pages []int) []plan.Io { return append(stores(pages), plan.Io{3, 0, 0}) }

// text is what Text must tell.
func text(x plan.Io) string {
	switch x.Kind {
	case 1:
		return fmt.Sprintf("load %d %d", x.Page, x.K)
	case 2:
		return fmt.Sprintf("store %d %d", x.Page, x.K)
	case 3:
		return "barrier"
	}
	return ""
}

// texts are steps as texts, as the chapter's example has them.
func texts(steps []plan.Io) string {
	var l []string
	for _, x := range steps {
		l = append(l, plan.Text(x))
	}
	return strings.Join(l, ", ")
}

// wantSteps holds steps that were told against those that must be.
func wantSteps(t *testing.T, what string, got, want []plan.Io) {
	t.Helper()
	if !slices.Equal(got, want) {
		t.Fatalf("%s: %v, want %v", what, got, want)
	}
}

// P19.1

func TestKindsAreNumbered(t *testing.T) {
	if plan.Load != 1 || plan.Store != 2 || plan.Barrier != 3 {
		t.Error(plan.Load, plan.Store, plan.Barrier)
	}
}

func TestLoadsOfAnyPage(t *testing.T) {
	wantSteps(t, "Loads(7)", plan.Loads(7), []plan.Io{{Kind: plan.Load, Page: 7, K: 0}, {Kind: plan.Load, Page: 7, K: 1}})
	for _, page := range numbers() {
		wantSteps(t, fmt.Sprintf("Loads(%d)", page), plan.Loads(page), loads(page))
	}
	for page := -200; page <= 200; page++ {
		wantSteps(t, fmt.Sprintf("Loads(%d)", page), plan.Loads(page), loads(page))
	}
}

func TestStoresOfNoPage(t *testing.T) {
	for _, got := range [][]plan.Io{plan.Stores(), plan.Stores(nil...), plan.Stores([]int{}...), plan.Stores([]int{4, 5}[:0]...)} {
		if len(got) != 0 {
			t.Errorf("Stores of no page: %v", got)
		}
	}
}

func TestStoresOfOnePage(t *testing.T) {
	wantSteps(t, "Stores(7)", plan.Stores(7), []plan.Io{{Kind: plan.Store, Page: 7, K: 0}, {Kind: plan.Store, Page: 7, K: 1}})
	for _, page := range numbers() {
		wantSteps(t, fmt.Sprintf("Stores(%d)", page), plan.Stores(page), stores([]int{page}))
	}
}

// They are stored in their row, which is not that of their numbers, and each as
// often as it is named.
func TestStoresOfSeveralPages(t *testing.T) {
	wantSteps(t, "Stores(2, 1)", plan.Stores(2, 1), []plan.Io{{2, 2, 0}, {2, 2, 1}, {2, 1, 0}, {2, 1, 1}})
	wantSteps(t, "Stores(7, 7)", plan.Stores(7, 7), []plan.Io{{2, 7, 0}, {2, 7, 1}, {2, 7, 0}, {2, 7, 1}})
	wantSteps(t, "Stores(1, 2, 1)", plan.Stores(1, 2, 1), []plan.Io{{2, 1, 0}, {2, 1, 1}, {2, 2, 0}, {2, 2, 1}, {2, 1, 0}, {2, 1, 1}})
	for _, l := range lists() {
		wantSteps(t, fmt.Sprintf("Stores of %v", l), plan.Stores(l...), stores(l))
	}
}

func TestStoresOfManyPages(t *testing.T) {
	rnd := rand.New(rand.NewSource(1))
	for _, n := range []int{16, 63, 64, 65, 100, 1000, 20000} {
		wantSteps(t, fmt.Sprintf("Stores of %d pages", n), plan.Stores(row(n)...), stores(row(n)))
		l := make([]int, n)
		for i := range l {
			l[i] = rnd.Intn(64)
		}
		wantSteps(t, fmt.Sprintf("Stores of %d pages, mixed", n), plan.Stores(l...), stores(l))
	}
}

func TestFetchOfTheChapter(t *testing.T) {
	want := []plan.Io{{Kind: plan.Store, Page: 1, K: 0}, {Kind: plan.Store, Page: 1, K: 1}, {Kind: plan.Load, Page: 3, K: 0}, {Kind: plan.Load, Page: 3, K: 1}}
	wantSteps(t, "Fetch(3, true, 1)", plan.Fetch(3, true, 1), want)
	if s := texts(plan.Fetch(3, true, 1)); s != "store 1 0, store 1 1, load 3 0, load 3 1" {
		t.Error(s)
	}
}

// Any old page is stored if it is dirty, be it the page itself; none is, if it
// is not.
func TestFetchOfEachWithEach(t *testing.T) {
	for _, page := range numbers() {
		for _, old := range numbers() {
			wantSteps(t, fmt.Sprintf("Fetch(%d, true, %d)", page, old), plan.Fetch(page, true, old), fetch(page, true, old))
			wantSteps(t, fmt.Sprintf("Fetch(%d, false, %d)", page, old), plan.Fetch(page, false, old), loads(page))
		}
	}
}

func TestFetchOfTheOldPageItself(t *testing.T) {
	wantSteps(t, "Fetch(4, true, 4)", plan.Fetch(4, true, 4), []plan.Io{{2, 4, 0}, {2, 4, 1}, {1, 4, 0}, {1, 4, 1}})
	wantSteps(t, "Fetch(4, false, 4)", plan.Fetch(4, false, 4), []plan.Io{{1, 4, 0}, {1, 4, 1}})
}

func TestFlushOfNoPage(t *testing.T) {
	for _, got := range [][]plan.Io{plan.Flush(), plan.Flush(nil...), plan.Flush([]int{}...), plan.Flush([]int{4, 5}[:0]...)} {
		wantSteps(t, "Flush of no page", got, []plan.Io{{Kind: plan.Barrier}})
	}
}

func TestFlushOfSome(t *testing.T) {
	wantSteps(t, "Flush(5)", plan.Flush(5), []plan.Io{{2, 5, 0}, {2, 5, 1}, {3, 0, 0}})
	wantSteps(t, "Flush(2, 1)", plan.Flush(2, 1), []plan.Io{{2, 2, 0}, {2, 2, 1}, {2, 1, 0}, {2, 1, 1}, {3, 0, 0}})
	wantSteps(t, "Flush(7, 7)", plan.Flush(7, 7), []plan.Io{{2, 7, 0}, {2, 7, 1}, {2, 7, 0}, {2, 7, 1}, {3, 0, 0}})
	for _, l := range lists() {
		wantSteps(t, fmt.Sprintf("Flush of %v", l), plan.Flush(l...), flush(l))
	}
	for _, n := range []int{16, 64, 65, 1000, 20000} {
		wantSteps(t, fmt.Sprintf("Flush of %d pages", n), plan.Flush(row(n)...), flush(row(n)))
	}
}

// P19.2

func TestMostOfSome(t *testing.T) {
	for quota, want := range map[int]int{1: 4, 2: 5, 3: 7, 4: 9, 5: 11, 16: 33, 31: 63, 32: 65, 63: 127, 64: 129} {
		if got := plan.Most(quota); got != want {
			t.Errorf("Most(%d): %d, want %d", quota, got, want)
		}
	}
}

// No operation of a tenant with so many frames takes more steps than Most
// tells, and one takes as many: nothing less would do.
func TestMostOfEachQuota(t *testing.T) {
	for quota := 1; quota <= 64; quota++ {
		most := max(len(plan.Fetch(0, true, 1)), len(plan.Fetch(0, false, 1)))
		for n := 0; n <= quota; n++ {
			most = max(most, len(plan.Flush(row(n)...)))
		}
		if got := plan.Most(quota); got != most {
			t.Errorf("Most(%d): %d, want %d", quota, got, most)
		}
		if whole := len(plan.Flush(row(quota)...)); plan.Most(quota) != max(4, whole) {
			t.Errorf("Most(%d): %d, and a flush of all takes %d", quota, plan.Most(quota), whole)
		}
	}
}

// Each frame more takes two steps more, but the second one: with one frame the
// fetch is what takes most.
func TestMostRises(t *testing.T) {
	for quota := 2; quota <= 64; quota++ {
		more := 2
		if quota == 2 {
			more = 1
		}
		if got := plan.Most(quota) - plan.Most(quota-1); got != more {
			t.Errorf("Most(%d) is %d more than that ahead of it", quota, got)
		}
	}
}

func TestTextOfEachKind(t *testing.T) {
	for want, x := range map[string]plan.Io{
		"load 3 0":    {Kind: plan.Load, Page: 3},
		"load 0 1":    {Kind: plan.Load, K: 1},
		"store 1 0":   {Kind: plan.Store, Page: 1},
		"store 0 0":   {Kind: plan.Store},
		"store 63 -1": {Kind: plan.Store, Page: 63, K: -1},
		"load -3 9":   {Kind: plan.Load, Page: -3, K: 9},
		"barrier":     {Kind: plan.Barrier},
	} {
		if got := plan.Text(x); got != want {
			t.Errorf("Text of %v: %q, want %q", x, got, want)
		}
	}
}

// A barrier has no place, whatever stands in the fields of one.
func TestTextOfABarrierOfAnyPlace(t *testing.T) {
	for _, page := range numbers() {
		for _, k := range numbers() {
			if got := plan.Text(plan.Io{Kind: plan.Barrier, Page: page, K: k}); got != "barrier" {
				t.Errorf("Text of a barrier of %d %d: %q", page, k, got)
			}
		}
	}
}

func TestTextOfNoKind(t *testing.T) {
	kinds := []int{0, 4, 5, 6, 7, 8, 16, 255, 256, 257, 258, 259, 1 << 16, 1<<16 + 1, 1<<31 - 1, 1 << 31, 1<<32 + 1, 1<<32 + 2, 1<<32 + 3, -1 << 32, -1<<32 + 1, math.MaxInt, math.MinInt, math.MinInt + 1, math.MinInt + 3}
	for n := 1; n <= 40; n++ {
		kinds = append(kinds, -n, 3+n)
	}
	for _, kind := range kinds {
		for _, page := range numbers() {
			for _, k := range []int{0, 1, page} {
				if got := plan.Text(plan.Io{Kind: kind, Page: page, K: k}); got != "" {
					t.Fatalf("Text of the kind %d: %q", kind, got)
				}
			}
		}
	}
}

// R6: any Page and any K, in decimals.
func TestTextOfAnyNumbers(t *testing.T) {
	for want, n := range map[string]int{
		"0": 0, "7": 7, "10": 10, "100": 100, "-1": -1, "-10": -10,
		"9223372036854775807": math.MaxInt, "-9223372036854775808": math.MinInt, "-9223372036854775807": math.MinInt + 1,
	} {
		if got := plan.Text(plan.Io{Kind: plan.Load, Page: n, K: n}); got != "load "+want+" "+want {
			t.Errorf("Text of a load of %d: %q", n, got)
		}
		if got := plan.Text(plan.Io{Kind: plan.Store, Page: n, K: n}); got != "store "+want+" "+want {
			t.Errorf("Text of a store of %d: %q", n, got)
		}
	}
	for _, page := range numbers() {
		for _, k := range numbers() {
			for kind := 1; kind <= 3; kind++ {
				x := plan.Io{Kind: kind, Page: page, K: k}
				if got := plan.Text(x); got != text(x) {
					t.Errorf("Text of %v: %q, want %q", x, got, text(x))
				}
			}
		}
	}
}

// Of numbers one by one, so that a digit more or less is seen.
func TestTextOfNumbersOneByOne(t *testing.T) {
	for n := -1100; n <= 1100; n++ {
		for _, x := range []plan.Io{{1, n, 0}, {2, n, 1}, {1, 0, n}, {2, 1, n}, {3, n, n}} {
			if got := plan.Text(x); got != text(x) {
				t.Fatalf("Text of %v: %q, want %q", x, got, text(x))
			}
		}
	}
}

// P19.3

// apart says whether steps are stores first, then loads, then a barrier, each
// page's two sectors by K, one behind the other.
func apart(steps []plan.Io) bool {
	order := map[int]int{plan.Store: 1, plan.Load: 2, plan.Barrier: 3}
	for i, x := range steps {
		if i > 0 && order[x.Kind] < order[steps[i-1].Kind] || order[x.Kind] == 0 {
			return false
		}
		if x.Kind == plan.Barrier {
			continue
		}
		if x.K != i%2 || i%2 == 1 && (x.Page != steps[i-1].Page || x.Kind != steps[i-1].Kind) {
			return false
		}
	}
	return true
}

// stored are the pages whose both sectors are stored ahead of the place at.
func stored(steps []plan.Io, at int) []int {
	halves := map[int][2]bool{}
	for _, x := range steps[:at] {
		if x.Kind == plan.Store && x.K >= 0 && x.K < 2 {
			h := halves[x.Page]
			h[x.K] = true
			halves[x.Page] = h
		}
	}
	var l []int
	for page, h := range halves {
		if h[0] && h[1] {
			l = append(l, page)
		}
	}
	slices.Sort(l)
	return l
}

// sorted are pages, each once.
func sorted(pages []int) []int {
	l := slices.Clone(pages)
	slices.Sort(l)
	return slices.Compact(l)
}

func TestOldPagesAreStoredAheadOfLoads(t *testing.T) {
	for _, page := range numbers() {
		for _, old := range numbers() {
			steps := plan.Fetch(page, true, old)
			first := slices.IndexFunc(steps, func(x plan.Io) bool { return x.Kind == plan.Load })
			if !apart(steps) || first < 0 || !slices.Equal(stored(steps, first), []int{old}) {
				t.Fatalf("Fetch(%d, true, %d): %v", page, old, steps)
			}
			if !slices.Equal(steps[first:], loads(page)) {
				t.Fatalf("Fetch(%d, true, %d) loads %v", page, old, steps[first:])
			}
			if steps := plan.Fetch(page, false, old); !apart(steps) || len(stored(steps, len(steps))) != 0 {
				t.Fatalf("Fetch(%d, false, %d): %v", page, old, steps)
			}
		}
	}
}

// The barrier is the last one, the only one, and of no place; all pages are
// stored ahead of it.
func TestPagesAreStoredAheadOfTheBarrier(t *testing.T) {
	for _, l := range append(lists(), row(64), row(65), row(1000)) {
		steps := plan.Flush(l...)
		last := len(steps) - 1
		if last < 0 || steps[last] != (plan.Io{Kind: plan.Barrier}) {
			t.Fatalf("Flush of %v ends otherwise: %v", l, steps)
		}
		if !apart(steps) || !slices.Equal(stored(steps, last), sorted(l)) {
			t.Fatalf("Flush of %v: %v", l, steps)
		}
		for _, x := range steps[:last] {
			if x.Kind != plan.Store {
				t.Fatalf("Flush of %v has %v ahead of its end", l, x)
			}
		}
	}
}

// A page that is in a frame, dirty, and goes for another one, comes back as it
// was, from a device that does step by step what it is asked; and no more than
// a frame is needed for it.
func TestWhatGoesComesBack(t *testing.T) {
	device := map[[2]int]byte{}
	frame, in := [2]byte{}, 0
	do := func(steps []plan.Io) {
		for _, x := range steps {
			switch x.Kind {
			case plan.Store:
				device[[2]int{x.Page, x.K}] = frame[x.K]
			case plan.Load:
				frame[x.K] = device[[2]int{x.Page, x.K}]
			}
		}
	}
	rnd := rand.New(rand.NewSource(3))
	was := map[int][2]byte{}
	for range 2000 {
		page, dirty := rnd.Intn(5), rnd.Intn(2) == 1
		if dirty {
			frame = [2]byte{byte(rnd.Intn(256)), byte(rnd.Intn(256))}
			was[in] = frame
		}
		do(plan.Fetch(page, dirty, in))
		in = page
		if frame != was[page] {
			t.Fatalf("the page %d is %v, want %v", page, frame, was[page])
		}
	}
}

// R3

// What a step does not name is 0: a barrier has neither a page nor a K, and all
// steps are told with their own numbers alone, so that they can be compared.
func TestWhatAStepDoesNotNameIsZero(t *testing.T) {
	for _, l := range lists() {
		for _, x := range plan.Flush(l...) {
			if x.Kind == plan.Barrier && (x.Page != 0 || x.K != 0) {
				t.Errorf("Flush of %v has the barrier %v", l, x)
			}
		}
	}
	if plan.Flush(9)[2] != plan.Flush()[0] || plan.Loads(3)[1] != (plan.Io{Kind: 1, Page: 3, K: 1}) {
		t.Error("steps that are the same are not")
	}
}

// R4

// What is handed in is not changed, its spare room neither, and not kept: steps
// stay as they were told, whatever becomes of it.
func TestPagesHandedInAreLeft(t *testing.T) {
	for _, call := range []struct {
		name string
		do   func(...int) []plan.Io
		want func([]int) []plan.Io
	}{{"Stores", plan.Stores, stores}, {"Flush", plan.Flush, flush}} {
		for _, room := range []int{0, 1, 20} {
			for _, l := range lists() {
				whole := append(slices.Clone(l), slices.Repeat([]int{77}, room)...)
				was := slices.Clone(whole)
				got := call.do(whole[:len(l)]...)
				if !slices.Equal(whole, was) {
					t.Fatalf("%s left %v of %v", call.name, whole, was)
				}
				clear(whole)
				wantSteps(t, call.name, got, call.want(l))
				wantSteps(t, call.name+" of noughts", call.do(whole[:len(l)]...), call.want(make([]int, len(l))))
			}
		}
	}
}

// all asks for steps in each way there is.
func all(page, old int, l []int) [][]plan.Io {
	return [][]plan.Io{plan.Loads(page), plan.Stores(page), plan.Stores(l...), plan.Fetch(page, true, old), plan.Fetch(page, false, old), plan.Flush(), plan.Flush(l...)}
}

// wantAll is what all must tell.
func wantAll(page, old int, l []int) [][]plan.Io {
	return [][]plan.Io{loads(page), stores([]int{page}), stores(l), fetch(page, true, old), fetch(page, false, old), flush(nil), flush(l)}
}

// What is told is new: spoilt, and filled up to the end of its spare room, it
// changes nothing that is told earlier or later.
func TestStepsAreNew(t *testing.T) {
	for _, l := range lists() {
		first, again := all(3, 1, l), all(3, 1, l)
		for _, steps := range first {
			steps = steps[:cap(steps)]
			for i := range steps {
				steps[i] = plan.Io{Kind: 9, Page: 9, K: 9}
			}
		}
		later := all(3, 1, l)
		for i, want := range wantAll(3, 1, l) {
			wantSteps(t, fmt.Sprint("told earlier ", i), again[i], want)
			wantSteps(t, fmt.Sprint("told later ", i), later[i], want)
		}
	}
}

// Steps that are told may be spoilt one list at a time, too: no two have
// memory in common.
func TestNoTwoListsAreOne(t *testing.T) {
	l := []int{5, 2}
	for i := range all(3, 1, l) {
		steps := all(3, 1, l)
		for k := range steps[i][:cap(steps[i])] {
			steps[i][:cap(steps[i])][k] = plan.Io{Kind: 9}
		}
		for other, want := range wantAll(3, 1, l) {
			if other != i {
				wantSteps(t, fmt.Sprint(other, " beside ", i), steps[other], want)
			}
		}
	}
}

// R5

// told is what all calls tell, as a text.
func told(page, old int, l []int, x plan.Io) string {
	return fmt.Sprint(all(page, old, l), plan.Most(1+len(l)), plan.Text(x))
}

// The same calls tell the same, whatever was called between them, and whatever
// room is behind what is handed in.
func TestTheSameCallsTellTheSame(t *testing.T) {
	rnd := rand.New(rand.NewSource(5))
	for range 3000 {
		page, old := rnd.Intn(200)-100, rnd.Int()
		l := make([]int, rnd.Intn(20))
		for i := range l {
			l[i] = rnd.Intn(8)
		}
		x := plan.Io{Kind: rnd.Intn(6) - 1, Page: rnd.Int() - rnd.Int(), K: rnd.Intn(3)}
		first := told(page, old, l, x)
		told(old, page, append(slices.Clone(l), page), plan.Io{Kind: rnd.Intn(4), Page: page})
		if again := told(page, old, slices.Grow(slices.Clone(l), rnd.Intn(40)), x); again != first {
			t.Fatalf("%d, %d, %v, %v: told %s, then %s", page, old, l, x, first, again)
		}
	}
}

// pagesOf are pages that bytes make, eight of each, and of the rest one each.
func pagesOf(b []byte) []int {
	var l []int
	for ; len(b) >= 8; b = b[8:] {
		l = append(l, int(binary.LittleEndian.Uint64(b)))
	}
	for _, x := range b {
		l = append(l, int(x))
	}
	return l
}

// FuzzPlan holds all calls against what is written out above.
func FuzzPlan(f *testing.F) {
	f.Add(3, 1, []byte{}, 1, 0)
	f.Add(4, 4, []byte{2, 1}, 2, 1)
	f.Add(-1, math.MinInt, []byte{7, 7, 7}, 3, -9)
	f.Add(math.MaxInt, 0, []byte("sixteen bytes ar"), 4, math.MaxInt)
	f.Fuzz(func(t *testing.T, page, old int, b []byte, kind, k int) {
		l := pagesOf(b)
		got := all(page, old, l)
		for i, want := range wantAll(page, old, l) {
			wantSteps(t, fmt.Sprint("fuzz ", i), got[i], want)
			if !apart(got[i]) {
				t.Fatal(i, got[i])
			}
		}
		x := plan.Io{Kind: kind, Page: page, K: k}
		if s := plan.Text(x); s != text(x) {
			t.Fatal(x, s)
		}
		if quota := len(l); quota >= 1 && quota <= 64 && plan.Most(quota) != max(4, 2*quota+1) {
			t.Fatal(quota, plan.Most(quota))
		}
	})
}
