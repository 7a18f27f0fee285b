package slots_test

import (
	"math"
	"math/big"
	"math/rand"
	"slices"
	"strconv"
	"testing"

	"allotment/api"
	"allotment/slots"
)

// The farthest tick of Next and Count, and the greatest number of Row and Wait.
const (
	far  = 1 << 40
	many = 1 << 20
)

// made is a schedule of n tenants.
func made(t *testing.T, n int) *slots.Schedule {
	t.Helper()
	s, e := slots.New(n)
	if s == nil || e != api.OK {
		t.Fatalf("New(%d): %v, %d", n, s, e)
	}
	return s
}

// eachSchedule asks f of each number of tenants.
func eachSchedule(t *testing.T, f func(s *slots.Schedule, n int)) {
	t.Helper()
	for n := 1; n <= 16; n++ {
		f(made(t, n), n)
	}
}

// turns are the owners of ticks from the tick from on, of n tenants: they take
// turns, one behind the other, and behind the last one it is the first one's
// again. Only whose turn is the first one is worked out, by numbers that have
// no end.
func turns(n, from, ticks int) []int {
	turn := int(new(big.Int).Mod(big.NewInt(int64(from)), big.NewInt(int64(n))).Int64())
	var l []int
	for range ticks {
		l = append(l, turn)
		if turn++; turn == n {
			turn = 0
		}
	}
	return l
}

// counted is how many of some owners are i.
func counted(owners []int, i int) int {
	n := 0
	for _, o := range owners {
		if o == i {
			n++
		}
	}
	return n
}

// starts are ticks at which a look may begin: both ends, and where numbers of
// fewer bits end.
func starts() []int {
	l := []int{0, 1, 2, 3, 14, 15, 16, 17, 31, 32, 33, 239, 240, 241, 255, 256, 257, 65535, 65536}
	for _, end := range []int{many, 1<<31 - 1, 1 << 31, 1 << 32, 1<<39 + 1, far} {
		l = append(l, end-100, end-17, end-16, end-15, end-2, end-1, end)
	}
	return l
}

// wrong are numbers of no schedule, such too as are one if some bits are not
// looked at.
func wrong() []int {
	l := []int{math.MinInt, math.MinInt + 1, math.MinInt + 16, -1 << 32, -1<<32 + 1, -1<<32 + 16, -1 << 31, -1 << 62,
		1 << 16, 1<<16 + 1, 1<<31 - 1, 1 << 31, 1 << 32, 1<<32 + 1, 1<<32 + 16, 1<<56 + 2, 1 << 62, 1<<62 + 1, math.MaxInt - 1, math.MaxInt}
	for n := range 2000 {
		l = append(l, -n, 17+n)
	}
	return l
}

// P11.1

func TestNewOfEachNumber(t *testing.T) {
	eachSchedule(t, func(s *slots.Schedule, n int) {
		if s.Len() != n {
			t.Errorf("Len of %d: %d", n, s.Len())
		}
	})
	if api.MaxTenants != 16 {
		t.Errorf("MaxTenants: %d", api.MaxTenants)
	}
}

func TestNewOfWrongNumbers(t *testing.T) {
	for _, n := range wrong() {
		if s, e := slots.New(n); s != nil || e != api.ErrArg {
			t.Errorf("New(%d): %v, %d", n, s, e)
		}
	}
}

func TestTheExamples(t *testing.T) {
	s := made(t, 3)
	if o := s.Owner(7); o != 1 {
		t.Errorf("Owner(7): %d", o)
	}
	if next := s.Next(7, 0); next != 9 {
		t.Errorf("Next(7, 0): %d", next)
	}
	if n := s.Count(0, 7, 0); n != 3 {
		t.Errorf("Count(0, 7, 0): %d", n)
	}
}

func TestOwners(t *testing.T) {
	for _, x := range []struct{ n, tick, want int }{
		{1, 0, 0}, {1, 1, 0}, {1, far, 0}, {1, math.MaxInt, 0},
		{2, 0, 0}, {2, 1, 1}, {2, 2, 0}, {2, far, 0}, {2, far + 1, 1}, {2, math.MaxInt, 1},
		{3, 0, 0}, {3, 2, 2}, {3, 3, 0}, {3, far, 1}, {3, math.MaxInt, 1},
		{10, 1234567, 7}, {10, math.MaxInt, 7}, // 9223372036854775807
		{16, 0, 0}, {16, 15, 15}, {16, 16, 0}, {16, far, 0}, {16, far - 1, 15}, {16, math.MaxInt, 15},
	} {
		if o := made(t, x.n).Owner(x.tick); o != x.want {
			t.Errorf("of %d: Owner(%d): %d, want %d", x.n, x.tick, o, x.want)
		}
	}
}

func TestOwnersTickByTick(t *testing.T) {
	eachSchedule(t, func(s *slots.Schedule, n int) {
		for _, from := range append(starts(), math.MaxInt-99) {
			for k, want := range turns(n, from, 100) {
				if o := s.Owner(from + k); o != want {
					t.Fatalf("of %d: Owner(%d): %d, want %d", n, from+k, o, want)
				}
			}
		}
	})
}

func TestRows(t *testing.T) {
	for _, x := range []struct {
		n, tick, ticks int
		want           []int
	}{
		{1, 0, 3, []int{0, 0, 0}}, {1, many, 1, []int{0}},
		{2, 0, 3, []int{0, 1, 0}}, {2, 1, 3, []int{1, 0, 1}}, {2, many, 2, []int{0, 1}},
		{3, 4, 5, []int{1, 2, 0, 1, 2}}, {3, 0, 1, []int{0}}, {3, many, 3, []int{1, 2, 0}},
		{16, 14, 4, []int{14, 15, 0, 1}}, {16, many - 1, 3, []int{15, 0, 1}},
	} {
		if l := made(t, x.n).Row(x.tick, x.ticks); !slices.Equal(l, x.want) {
			t.Errorf("of %d: Row(%d, %d): %v, want %v", x.n, x.tick, x.ticks, l, x.want)
		}
	}
}

func TestRowsTickByTick(t *testing.T) {
	eachSchedule(t, func(s *slots.Schedule, n int) {
		for from := range 40 {
			for ticks := range 60 {
				if l := s.Row(from, ticks); !slices.Equal(l, turns(n, from, ticks)) {
					t.Fatalf("of %d: Row(%d, %d): %v", n, from, ticks, l)
				}
			}
		}
		for _, from := range []int{many - 17, many - 1, many} {
			if l := s.Row(from, 50); !slices.Equal(l, turns(n, from, 50)) {
				t.Errorf("of %d: Row(%d, 50): %v", n, from, l)
			}
		}
	})
}

func TestTheLongestRows(t *testing.T) {
	for _, n := range []int{1, 2, 7, 16} {
		s := made(t, n)
		for _, x := range [][2]int{{0, many}, {5, many - 1}, {many, many}} {
			if l := s.Row(x[0], x[1]); !slices.Equal(l, turns(n, x[0], x[1])) {
				t.Errorf("of %d: Row(%d, %d) has %d owners, or others", n, x[0], x[1], len(l))
			}
		}
	}
}

func TestRowOfNone(t *testing.T) {
	eachSchedule(t, func(s *slots.Schedule, n int) {
		for _, from := range []int{0, 1, 7, many} {
			for _, ticks := range []int{0, -1, -2, -16, -many, -1 << 31, -1 << 32, -1<<32 + 3, math.MinInt, math.MinInt + 1} {
				if l := s.Row(from, ticks); len(l) != 0 {
					t.Errorf("of %d: Row(%d, %d): %v", n, from, ticks, l)
				}
			}
		}
	})
}

func TestRowAsksOwners(t *testing.T) {
	eachSchedule(t, func(s *slots.Schedule, n int) {
		for k, o := range s.Row(many-50, 100) {
			if want := s.Owner(many - 50 + k); o != want {
				t.Errorf("of %d: Row tells %d of the tick %d, Owner %d", n, o, many-50+k, want)
			}
		}
	})
}

// P11.2

func TestNexts(t *testing.T) {
	for _, x := range []struct{ n, tick, i, want int }{
		{1, 0, 0, 0}, {1, 9, 0, 9}, {1, far, 0, far},
		{2, 0, 0, 0}, {2, 0, 1, 1}, {2, 1, 0, 2}, {2, 1, 1, 1}, {2, far, 0, far}, {2, far, 1, far + 1},
		{3, 0, 0, 0}, {3, 0, 2, 2}, {3, 5, 2, 5}, {3, 5, 1, 7}, {3, 6, 2, 8}, {3, far, 1, far}, {3, far, 0, far + 2},
		{16, 0, 15, 15}, {16, 15, 15, 15}, {16, 16, 15, 31}, {16, 1, 0, 16}, {16, far, 0, far}, {16, far, 15, far + 15}, {16, far - 15, 0, far},
	} {
		if next := made(t, x.n).Next(x.tick, x.i); next != x.want {
			t.Errorf("of %d: Next(%d, %d): %d, want %d", x.n, x.tick, x.i, next, x.want)
		}
	}
}

func TestNextTickByTick(t *testing.T) {
	eachSchedule(t, func(s *slots.Schedule, n int) {
		for _, from := range starts() {
			l := turns(n, from, 100)
			for k := range 50 {
				for i := range n {
					want := from + k + slices.Index(l[k:], i)
					if next := s.Next(from+k, i); from+k <= far && next != want {
						t.Fatalf("of %d: Next(%d, %d): %d, want %d", n, from+k, i, next, want)
					}
				}
			}
		}
	})
}

// What Next tells is held against what Owner tells alone.
func TestNextIsTheFirstThatIsTheTenants(t *testing.T) {
	eachSchedule(t, func(s *slots.Schedule, n int) {
		for _, tick := range starts() {
			for i := range n {
				next := s.Next(tick, i)
				if next < tick || s.Owner(next) != i {
					t.Fatalf("of %d: Next(%d, %d): %d, which is %d's", n, tick, i, next, s.Owner(next))
				}
				for between := tick; between < next; between++ {
					if s.Owner(between) == i {
						t.Fatalf("of %d: Next(%d, %d): %d, and %d is ahead of it", n, tick, i, next, between)
					}
				}
			}
		}
	})
}

func TestNextOfItsOwnTickAndBehindIt(t *testing.T) {
	eachSchedule(t, func(s *slots.Schedule, n int) {
		for _, tick := range starts() {
			i := s.Owner(tick)
			if next := s.Next(tick, i); next != tick {
				t.Errorf("of %d: the tick %d is %d's: Next: %d", n, tick, i, next)
			}
			if tick < far {
				if next := s.Next(tick+1, i); next != tick+n {
					t.Errorf("of %d: the tick %d is %d's: Next behind it: %d", n, tick, i, next)
				}
			}
		}
	})
}

func TestCounts(t *testing.T) {
	for _, x := range []struct{ n, from, to, i, want int }{
		{1, 3, 9, 0, 6}, {1, 0, far, 0, far}, {1, far, 0, 0, 0},
		{2, 0, 1, 0, 1}, {2, 0, 1, 1, 0}, {2, 1, 2, 1, 1}, {2, 0, far, 0, far / 2}, {2, 0, far, 1, far / 2}, {2, 1, far, 0, far/2 - 1},
		{3, 0, 0, 0, 0}, {3, 0, 7, 1, 2}, {3, 2, 9, 2, 3}, {3, 3, 9, 0, 2}, {3, 9, 3, 0, 0},
		{3, 0, far, 0, 366503875926}, {3, 0, far, 1, 366503875925}, {3, 0, far, 2, 366503875925},
		{10, 0, far, 5, 109951162778}, {10, 0, far, 6, 109951162777}, // 2^40: 1099511627776
		{16, 0, 15, 15, 0}, {16, 0, 16, 15, 1}, {16, 15, 16, 15, 1}, {16, 16, 31, 15, 0}, {16, 0, far, 15, far / 16},
	} {
		if n := made(t, x.n).Count(x.from, x.to, x.i); n != x.want {
			t.Errorf("of %d: Count(%d, %d, %d): %d, want %d", x.n, x.from, x.to, x.i, n, x.want)
		}
	}
}

func TestCountTickByTick(t *testing.T) {
	eachSchedule(t, func(s *slots.Schedule, n int) {
		l := turns(n, 0, 70)
		for from := range 70 {
			for to := range 70 {
				for i := range n {
					want := counted(l[from:max(from, to)], i)
					if c := s.Count(from, to, i); c != want {
						t.Fatalf("of %d: Count(%d, %d, %d): %d, want %d", n, from, to, i, c, want)
					}
				}
			}
		}
	})
}

func TestCountOfFarTicks(t *testing.T) {
	eachSchedule(t, func(s *slots.Schedule, n int) {
		l := turns(n, far-60, 60)
		for from := range 61 {
			for to := from; to <= 60; to++ {
				for i := range n {
					want := counted(l[from:to], i)
					if c := s.Count(far-60+from, far-60+to, i); c != want {
						t.Fatalf("of %d: Count(2^40 - %d, 2^40 - %d, %d): %d, want %d", n, 60-from, 60-to, i, c, want)
					}
				}
			}
		}
	})
}

// From 0 on to a far tick each tenant has as many as there are whole rounds,
// and those whose turn of the last one is ahead of it have one more.
func TestCountFromTheFirstTickOn(t *testing.T) {
	eachSchedule(t, func(s *slots.Schedule, n int) {
		for _, to := range starts() {
			rounds, rest := new(big.Int).DivMod(big.NewInt(int64(to)), big.NewInt(int64(n)), new(big.Int))
			for i := range n {
				want := int(rounds.Int64())
				if i < int(rest.Int64()) {
					want++
				}
				if c := s.Count(0, to, i); c != want {
					t.Errorf("of %d: Count(0, %d, %d): %d, want %d", n, to, i, c, want)
				}
			}
		}
	})
}

func TestCountOfNoTicks(t *testing.T) {
	eachSchedule(t, func(s *slots.Schedule, n int) {
		for _, from := range starts() {
			for _, to := range starts() {
				for i := range n {
					if c := s.Count(from, to, i); to <= from && c != 0 {
						t.Fatalf("of %d: Count(%d, %d, %d): %d", n, from, to, i, c)
					}
				}
			}
		}
	})
}

func TestCountsOfAllTogether(t *testing.T) {
	eachSchedule(t, func(s *slots.Schedule, n int) {
		for _, from := range starts() {
			for _, to := range starts() {
				all := 0
				for i := range n {
					all += s.Count(from, to, i)
				}
				if all != max(to-from, 0) {
					t.Fatalf("of %d: from %d to %d are %d ticks, all counts are %d", n, from, to, to-from, all)
				}
			}
		}
	})
}

func TestCountsOfPieces(t *testing.T) {
	rnd := rand.New(rand.NewSource(1))
	eachSchedule(t, func(s *slots.Schedule, n int) {
		for range 500 {
			l := []int{rnd.Intn(far + 1), rnd.Intn(far + 1), rnd.Intn(far + 1)}
			slices.Sort(l)
			for i := range n {
				if s.Count(l[0], l[1], i)+s.Count(l[1], l[2], i) != s.Count(l[0], l[2], i) {
					t.Fatalf("of %d: the counts of %v of %d do not come to one another", n, l, i)
				}
			}
		}
	})
}

// Whoever is no tenant has no tick.
func TestCountOfNoTenant(t *testing.T) {
	eachSchedule(t, func(s *slots.Schedule, n int) {
		for _, i := range []int{n, n + 1, 2 * n, 2*n + 1, 16, 17, 32, 65536, 1 << 32, far - 1, far} {
			for _, x := range [][2]int{{0, 0}, {0, 1}, {0, 100}, {7, 9}, {9, 7}, {0, far}, {far, far}, {far - 100, far}} {
				if c := s.Count(x[0], x[1], i); i >= n && c != 0 {
					t.Errorf("of %d: Count(%d, %d, %d): %d", n, x[0], x[1], i, c)
				}
			}
		}
	})
}

func TestWaits(t *testing.T) {
	for _, x := range []struct{ n, k, want int }{
		{1, 0, 0}, {1, 1, 1}, {1, 4, 4}, {1, many, many},
		{2, 0, 0}, {2, 1, 2}, {2, many, 2 * many},
		{3, 0, 0}, {3, 1, 3}, {3, 5, 15}, {3, many, 3145728},
		{16, 0, 0}, {16, 1, 16}, {16, 2, 32}, {16, many - 1, 16777200}, {16, many, 16777216},
	} {
		if w := made(t, x.n).Wait(x.k); w != x.want {
			t.Errorf("of %d: Wait(%d): %d, want %d", x.n, x.k, w, x.want)
		}
	}
}

func TestWaitTickByTick(t *testing.T) {
	eachSchedule(t, func(s *slots.Schedule, n int) {
		for k := range 6 {
			ticks, fewer := s.Wait(k), false
			if ticks < k || ticks > 1000 {
				t.Fatalf("of %d: Wait(%d): %d", n, k, ticks)
			}
			for from := range 2*n + 1 {
				l := turns(n, from, ticks)
				for i := range n {
					if counted(l, i) < k {
						t.Errorf("of %d: from %d on, Wait(%d) is %d ticks, and %d of them are %d's", n, from, k, ticks, counted(l, i), i)
					}
					fewer = fewer || k > 0 && counted(l[:ticks-1], i) < k
				}
			}
			if fewer != (k > 0) {
				t.Errorf("of %d: Wait(%d): %d ticks, of which one less would do", n, k, ticks)
			}
		}
	})
}

// What Wait tells is held against what Count tells alone.
func TestWaitHasSoManyOfEachTenants(t *testing.T) {
	eachSchedule(t, func(s *slots.Schedule, n int) {
		for _, k := range []int{0, 1, 2, 7, 255, 256, 65535, 65536, many - 1, many} {
			ticks, fewer := s.Wait(k), false
			for _, first := range []int{0, far - 1<<25} {
				for from := first; from < first+40; from++ {
					for i := range n {
						if c := s.Count(from, from+ticks, i); c != k {
							t.Fatalf("of %d: of the %d ticks from %d on %d are %d's, want %d", n, ticks, from, c, i, k)
						}
						fewer = fewer || s.Count(from, from+ticks-1, i) < k
					}
				}
			}
			if fewer != (k > 0) {
				t.Errorf("of %d: Wait(%d): %d, and one less has fewer: %t", n, k, ticks, fewer)
			}
		}
	})
}

// P11.3

// each are the numbers from 0 on, n of them.
func each(n int) []int {
	var l []int
	for i := range n {
		l = append(l, i)
	}
	return l
}

func TestOneTickIsEachOnes(t *testing.T) {
	eachSchedule(t, func(s *slots.Schedule, n int) {
		for from := range 100 {
			row := s.Row(from, n)
			if slices.Sort(row); !slices.Equal(row, each(n)) {
				t.Errorf("of %d: the owners from %d on, sorted: %v", n, from, row)
			}
		}
		for _, from := range append(starts(), math.MaxInt-15) {
			var owners []int
			for k := range n {
				owners = append(owners, s.Owner(from+k))
			}
			if slices.Sort(owners); !slices.Equal(owners, each(n)) {
				t.Errorf("of %d: the owners from %d on, sorted: %v", n, from, owners)
			}
		}
	})
}

func TestOneTickIsEachOnesByNextAndCount(t *testing.T) {
	eachSchedule(t, func(s *slots.Schedule, n int) {
		for _, from := range starts() {
			var nexts, ticks []int
			for i := range n {
				nexts = append(nexts, s.Next(from, i))
				ticks = append(ticks, from+i)
				if c := s.Count(from, from+n, i); from+n <= far && c != 1 {
					t.Errorf("of %d: of as many ticks from %d on %d are %d's", n, from, c, i)
				}
			}
			if slices.Sort(nexts); !slices.Equal(nexts, ticks) {
				t.Errorf("of %d: the next ticks from %d on, sorted: %v", n, from, nexts)
			}
		}
	})
}

// R5

// told is what a schedule tells of some numbers.
func told(s *slots.Schedule, tick, to, k int) string {
	var l []int
	l = append(l, s.Len(), s.Owner(tick), s.Wait(k))
	for i := range s.Len() {
		l = append(l, s.Next(tick, i), s.Count(tick, to, i), s.Count(0, to, i))
	}
	l = append(l, s.Row(k, k%50)...)
	text := ""
	for _, n := range l {
		text += strconv.Itoa(n) + " "
	}
	return text
}

// TestTheSameCallsTellTheSame asks all schedules in turns, in which each is
// asked twice, and a new one too.
func TestTheSameCallsTellTheSame(t *testing.T) {
	var all []*slots.Schedule
	eachSchedule(t, func(s *slots.Schedule, n int) { all = append(all, s) })
	rnd := rand.New(rand.NewSource(2))
	for range 300 {
		tick, to, k := rnd.Intn(far+1), rnd.Intn(far+1), rnd.Intn(many+1)
		var first []string
		for _, s := range all {
			first = append(first, told(s, tick, to, k))
		}
		for i, s := range slices.Backward(all) {
			if again := told(s, tick, to, k); again != first[i] {
				t.Fatalf("of %d: told %s, and then %s", i+1, first[i], again)
			}
			if other := told(made(t, i+1), tick, to, k); other != first[i] {
				t.Fatalf("of %d: told %s, another one %s", i+1, first[i], other)
			}
		}
	}
}

// A schedule stays as it is when another one is made, or refused.
func TestOneScheduleAlone(t *testing.T) {
	eachSchedule(t, func(s *slots.Schedule, n int) {
		ahead := told(s, 1000, 2000, 99)
		for other := -1; other <= 18; other++ {
			if o, _ := slots.New(other); o == s {
				t.Errorf("New(%d) told the schedule of %d again", other, n)
			} else if o != nil {
				told(o, 12345, 99999, 77)
			}
			if behind := told(s, 1000, 2000, 99); behind != ahead {
				t.Fatalf("of %d: behind New(%d) told %s, ahead of it %s", n, other, behind, ahead)
			}
		}
	})
}

// R4

// spoil writes into a list and all of its room, and puts more behind it.
func spoil(l []int) {
	whole := l[:cap(l)]
	for i := range whole {
		whole[i] = -77
	}
	l = append(l, -78)
	l[0] = -79
}

func TestWhatRowToldIsNew(t *testing.T) {
	eachSchedule(t, func(s *slots.Schedule, n int) {
		for _, from := range []int{0, 1, 5, many} {
			for _, ticks := range []int{-1, 0, 1, 2, n - 1, n, n + 1, 2 * n, 100} {
				want := turns(n, from, ticks)
				one, two := s.Row(from, ticks), s.Row(from, ticks)
				slices.Reverse(one)
				spoil(one)
				if !slices.Equal(two, want) {
					t.Errorf("of %d: two rows have one memory: %v", n, two)
				}
				three := s.Row(from, ticks)
				spoil(three)
				if again := s.Row(from, ticks); !slices.Equal(again, want) {
					t.Errorf("of %d: Row(%d, %d) behind others that were spoiled: %v", n, from, ticks, again)
				}
				spoil(two)
				if s.Len() != n || s.Owner(from) != turns(n, from, 1)[0] {
					t.Errorf("of %d: a row that was spoiled changed what is told", n)
				}
			}
		}
	})
}

func TestWhatRowToldStays(t *testing.T) {
	eachSchedule(t, func(s *slots.Schedule, n int) {
		l := s.Row(3, 40)
		for from := range 50 {
			s.Row(from, 41)
			s.Row(from, from)
			made(t, 17-n).Row(from, 40)
		}
		if !slices.Equal(l, turns(n, 3, 40)) {
			t.Errorf("of %d: later calls changed what was told: %v", n, l)
		}
	})
}

// R1

// Of numbers that no chapter allows nothing is promised but that no call
// panics, and each ends.
func TestNumbersThatAreNotAllowed(t *testing.T) {
	numbers := []int{math.MinInt, math.MinInt + 1, -far, -many, -17, -1, 0, 15, 16, many + 1, far + 1, math.MaxInt - 1, math.MaxInt}
	eachSchedule(t, func(s *slots.Schedule, n int) {
		for _, a := range numbers {
			s.Owner(a)
			s.Wait(a)
			for _, b := range numbers {
				s.Next(a, b)
				s.Row(a, b)
				for _, c := range numbers {
					s.Count(a, b, c)
				}
			}
		}
		if s.Len() != n || !slices.Equal(s.Row(0, 40), turns(n, 0, 40)) {
			t.Errorf("of %d: changed by numbers that are not allowed", n)
		}
	})
}

// FuzzSchedule holds all calls against turns taken tick by tick, of ticks that
// are no farther apart than can be gone through.
func FuzzSchedule(f *testing.F) {
	f.Add(3, 7, 7, 0)
	f.Add(0, 0, 0, 0)
	f.Add(1, far, 0, 1)
	f.Add(16, far, 100, 15)
	f.Add(17, 1, 1, 16)
	f.Add(math.MaxInt, math.MaxInt, math.MinInt, math.MaxInt)
	f.Fuzz(func(t *testing.T, n, from, ticks, i int) {
		s, e := slots.New(n)
		if n < 1 || n > 16 {
			if s != nil || e != api.ErrArg {
				t.Errorf("New(%d): %v, %d", n, s, e)
			}
			return
		}
		from, ticks, i = from&(far/2-1), ticks&1023, i&15
		l := turns(n, from, ticks+n)
		if o := s.Owner(from); o != l[0] {
			t.Errorf("of %d: Owner(%d): %d", n, from, o)
		}
		if c := s.Count(from, from+ticks, i); c != counted(l[:ticks], i) {
			t.Errorf("of %d: Count(%d, %d, %d): %d", n, from, from+ticks, i, c)
		}
		if i < n && s.Next(from, i) != from+slices.Index(l, i) {
			t.Errorf("of %d: Next(%d, %d): %d", n, from, i, s.Next(from, i))
		}
		if row := s.Row(from&(many-1), ticks); !slices.Equal(row, turns(n, from&(many-1), ticks)) {
			t.Errorf("of %d: Row(%d, %d): %v", n, from&(many-1), ticks, row)
		}
		w := s.Wait(ticks)
		for j := range n {
			if s.Count(from, from+w, j) != ticks {
				t.Errorf("of %d: Wait(%d): %d, and the ticks from %d on", n, ticks, w, from)
			}
		}
	})
}
