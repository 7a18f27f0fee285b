package caps_test

import (
	"math"
	"math/rand"
	"slices"
	"testing"

	"allotment/api"
	"allotment/caps"
	"allotment/rights"
)

// million is 2^20, written out.
const million = 1048576

// epochs are some that may be: the first and the last ones, and some between.
func epochs() []int { return []int{1, 2, 3, 7, 255, 256, million - 1, million, 1<<30 - 1, 1 << 30} }

// far are numbers that no slot has: such too as are a slot's if some bits of
// them are not looked at.
func far() []int {
	return []int{8, 9, 15, 16, 64, 255, 256, 257, 1 << 16, 1 << 31, 1 << 32, 1<<32 + 1, 1 << 62, math.MaxInt - 1, math.MaxInt,
		-1, -2, -7, -8, -9, -16, -255, -256, -1 << 16, -1 << 31, -1 << 32, -1<<32 + 1, -1 << 62, math.MinInt, math.MinInt + 1}
}

// sixteen are all sets that may be.
func sixteen() []rights.Set {
	var l []rights.Set
	for s := range 16 {
		l = append(l, rights.Set(s))
	}
	return l
}

// others are sets that may not be.
func others() []rights.Set {
	l := []rights.Set{16, 17, 24, 31, 32, 64, 99, 128, 255, 256, 1 << 31, 1 << 32, 1<<32 + 8, 1 << 62, math.MaxInt, -1, -2, -8, -15, -16, -17, math.MinInt, math.MinInt + 1}
	for i := 4; i < 63; i++ {
		l = append(l, 1<<i, 1<<i+15)
	}
	return l
}

// made is a table of an epoch.
func made(t *testing.T, epoch int) *caps.Table {
	t.Helper()
	x, e := caps.New(epoch)
	if x == nil || e != api.OK {
		t.Fatalf("New(%d): %v, %d", epoch, x, e)
	}
	return x
}

// minted is a new one that must be given out.
func minted(t *testing.T, x *caps.Table, c api.Cap, s rights.Set) api.Cap {
	t.Helper()
	n, e := x.Mint(c, s)
	if e != api.OK {
		t.Fatalf("Mint by %v of %d: %d", c, s, e)
	}
	return n
}

// revoked takes back one that must be taken back.
func revoked(t *testing.T, x *caps.Table, c, what api.Cap) {
	t.Helper()
	if e := x.Revoke(c, what); e != api.OK {
		t.Fatalf("Revoke by %v of %v: %d", c, what, e)
	}
}

// full is a table of an epoch whose slots all have all rights.
func full(t *testing.T, epoch int) (*caps.Table, []api.Cap) {
	t.Helper()
	x := made(t, epoch)
	for range 7 {
		minted(t, x, x.Root(), 15)
	}
	return x, x.All()
}

// The model

// given is a capability that was given out.
type given struct {
	c    api.Cap
	lets rights.Set
	by   int // which one it was minted by
	good bool
}

// model is a table as the chapter tells it: all that were ever given out, in
// their row, and no slots at all.
type model struct {
	epoch int
	all   []given
}

func newModel(epoch int) *model {
	return &model{epoch: epoch, all: []given{{api.Cap{Slot: 0, Gen: epoch * million}, 15, 0, true}}}
}

// find is which one a capability is, if it is good.
func (m *model) find(c api.Cap) (int, bool) {
	for i, g := range m.all {
		if g.good && g.c.Slot == c.Slot && g.c.Gen == c.Gen {
			return i, true
		}
	}
	return 0, false
}

// live are those that are good, by their slots.
func (m *model) live() []api.Cap {
	var l []api.Cap
	for slot := range 8 {
		for _, g := range m.all {
			if g.good && g.c.Slot == slot {
				l = append(l, g.c)
			}
		}
	}
	return l
}

// empty is the first slot in which no good one is; 8, if there is none.
func (m *model) empty() int {
	l := m.live()
	for slot, c := range l {
		if c.Slot != slot {
			return slot
		}
	}
	return len(l)
}

// all says whether rights are all among others, each of them counted by what
// it adds to the number.
func all(s, among rights.Set) bool {
	if s < 0 || s > 15 {
		return false
	}
	for _, one := range []rights.Set{1, 2, 4, 8} {
		if s/one%2 == 1 && among/one%2 == 0 {
			return false
		}
	}
	return true
}

func (m *model) rights(c api.Cap) (rights.Set, api.Errno) {
	i, is := m.find(c)
	if !is {
		return 0, api.ErrBadCap
	}
	return m.all[i].lets, api.OK
}

func (m *model) check(c api.Cap, need rights.Set) api.Errno {
	lets, e := m.rights(c)
	if e == api.OK && !all(need, lets) {
		return api.ErrRights
	}
	return e
}

func (m *model) mint(c api.Cap, s rights.Set) (api.Cap, api.Errno) {
	by, is := m.find(c)
	slot := m.empty()
	switch {
	case !is:
		return api.Cap{}, api.ErrBadCap
	case m.all[by].lets < 8:
		return api.Cap{}, api.ErrRights
	case s < 0 || s > 15:
		return api.Cap{}, api.ErrArg
	case !all(s, m.all[by].lets):
		return api.Cap{}, api.ErrRights
	case slot == 8 || len(m.all) == million:
		return api.Cap{}, api.ErrFull
	}
	n := api.Cap{Slot: slot, Gen: m.epoch*million + len(m.all)}
	m.all = append(m.all, given{n, s, by, true})
	return n, api.OK
}

func (m *model) revoke(c, what api.Cap) api.Errno {
	by, is := m.find(c)
	i, there := m.find(what)
	switch {
	case !is:
		return api.ErrBadCap
	case m.all[by].lets < 8:
		return api.ErrRights
	case !there:
		return api.ErrBadCap
	}
	m.all[i].good = false
	return api.OK
}

// bad are capabilities near those that were given out, and far from them; some
// of them may be good by chance, as the model tells.
func (m *model) bad() []api.Cap {
	l := []api.Cap{{}, {Slot: 0, Gen: 1}, {Slot: 0, Gen: -1}, {Slot: 0, Gen: math.MaxInt}, {Slot: 0, Gen: math.MinInt}}
	first, next := m.epoch*million, m.epoch*million+len(m.all)
	for slot := -1; slot <= 8; slot++ {
		for _, gen := range []int{0, slot, m.epoch, first - 1, first, next - 1, next, next + 1, first + million, first - million, -first} {
			l = append(l, api.Cap{Slot: slot, Gen: gen})
		}
	}
	for _, slot := range far() {
		l = append(l, api.Cap{Slot: slot, Gen: first}, api.Cap{Slot: slot, Gen: 0}, api.Cap{Slot: slot, Gen: slot})
	}
	for _, g := range m.all {
		l = append(l, g.c, api.Cap{Slot: g.c.Slot, Gen: g.c.Gen + 1}, api.Cap{Slot: g.c.Slot, Gen: g.c.Gen - 1}, api.Cap{Slot: g.c.Slot + 1, Gen: g.c.Gen}, api.Cap{Slot: g.c.Slot + 8, Gen: g.c.Gen},
			api.Cap{Slot: g.c.Slot - 8, Gen: g.c.Gen}, api.Cap{Slot: g.c.Slot, Gen: g.c.Gen + 1<<32}, api.Cap{Slot: g.c.Slot, Gen: -g.c.Gen}, api.Cap{Slot: g.c.Gen, Gen: g.c.Slot})
	}
	return l
}

// same holds all that a table tells without being changed against the model.
func (m *model) same(t *testing.T, what string, x *caps.Table) {
	t.Helper()
	l := m.live()
	if root := x.Root(); root != (api.Cap{Slot: 0, Gen: m.epoch * million}) {
		t.Fatalf("%s: Root: %v", what, root)
	}
	if n := x.Live(); n != len(l) {
		t.Fatalf("%s: Live: %d, want %d", what, n, len(l))
	}
	if got := x.All(); !slices.Equal(got, l) {
		t.Fatalf("%s: All: %v, want %v", what, got, l)
	}
	for _, g := range m.all {
		m.sameOf(t, what, x, g.c)
	}
}

// sameOf holds what is told of one capability against the model.
func (m *model) sameOf(t *testing.T, what string, x *caps.Table, c api.Cap) {
	t.Helper()
	s, e := m.rights(c)
	if lets, got := x.Rights(c); lets != s || got != e {
		t.Fatalf("%s: Rights of %v: %d, %d, want %d, %d", what, c, lets, got, s, e)
	}
	for _, need := range []rights.Set{0, 1, 2, 4, 8, 9, 15, 16, -1} {
		if got := x.Check(c, need); got != m.check(c, need) {
			t.Fatalf("%s: Check of %v for %d: %d, want %d", what, c, need, got, m.check(c, need))
		}
	}
}

// mintBoth mints in both, and holds what is told.
func (m *model) mintBoth(t *testing.T, x *caps.Table, c api.Cap, s rights.Set) (api.Cap, api.Errno) {
	t.Helper()
	n, e := x.Mint(c, s)
	if want, errno := m.mint(c, s); n != want || e != errno {
		t.Fatalf("Mint by %v of %d: %v, %d, want %v, %d", c, s, n, e, want, errno)
	}
	return n, e
}

// revokeBoth revokes in both, and holds what is told.
func (m *model) revokeBoth(t *testing.T, x *caps.Table, c, what api.Cap) api.Errno {
	t.Helper()
	e := x.Revoke(c, what)
	if want := m.revoke(c, what); e != want {
		t.Fatalf("Revoke by %v of %v: %d, want %d", c, what, e, want)
	}
	return e
}

// both is a table of an epoch, and its model.
func both(t *testing.T, epoch int) (*caps.Table, *model) {
	t.Helper()
	return made(t, epoch), newModel(epoch)
}

// P17.1

func TestNewOfEpochsThatMayBe(t *testing.T) {
	for _, epoch := range epochs() {
		x, m := both(t, epoch)
		m.same(t, "new", x)
		if s, e := x.Rights(x.Root()); s != rights.All() || e != api.OK {
			t.Errorf("of epoch %d the root's rights: %d, %d", epoch, s, e)
		}
	}
}

// Beside ErrArg there is no table (R2).
func TestNewOfEpochsThatMayNotBe(t *testing.T) {
	for _, epoch := range []int{0, 1<<30 + 1, 1<<30 + 2, 1 << 31, 1<<31 + 1, 1 << 32, 1<<32 + 1, 1<<40 + 1, 1<<44 + 1, 1 << 62, math.MaxInt - 1, math.MaxInt,
		-1, -2, -1 << 30, -1<<30 - 1, -1 << 31, -1 << 32, -1<<32 + 1, -1<<44 + 1, math.MinInt, math.MinInt + 1} {
		if x, e := caps.New(epoch); x != nil || e != api.ErrArg {
			t.Errorf("New(%d): %v, %d", epoch, x, e)
		}
	}
}

// The chapter's example, and the last epoch's root.
func TestNewTellsItsRoot(t *testing.T) {
	for epoch, root := range map[int]api.Cap{1: {Slot: 0, Gen: 1048576}, 2: {Slot: 0, Gen: 2097152}, 1 << 30: {Slot: 0, Gen: 1 << 50}} {
		x := made(t, epoch)
		if x.Root() != root || x.Live() != 1 || !slices.Equal(x.All(), []api.Cap{root}) {
			t.Errorf("of epoch %d: %v, %d, %v", epoch, x.Root(), x.Live(), x.All())
		}
	}
}

// Root is told whether it is still good or not, and when its slot is another
// one's too; that one is not the root.
func TestRootIsAlwaysTheFirstOne(t *testing.T) {
	for _, epoch := range epochs() {
		x, m := both(t, epoch)
		root := x.Root()
		giver, _ := m.mintBoth(t, x, root, 9)
		m.same(t, "one more", x)
		m.revokeBoth(t, x, root, root)
		m.same(t, "the root is gone", x)
		other, _ := m.mintBoth(t, x, giver, 8)
		if other.Slot != 0 || x.Root() != root || x.Check(root, 0) != api.ErrBadCap || x.Check(other, 8) != api.OK {
			t.Errorf("of epoch %d: %v in the slot of the root, which is %v", epoch, other, x.Root())
		}
		m.same(t, "its slot is another one's", x)
	}
}

// Each choice of slots that are empty; of all eight too, behind which nothing
// comes any more.
func TestLiveAndAllOfEachChoiceOfSlots(t *testing.T) {
	for choice := range 256 {
		x, l := full(t, 5)
		var left []api.Cap
		for slot, c := range l {
			if choice>>slot%2 == 1 {
				left = append(left, c)
			}
		}
		by := l[0]
		if len(left) > 0 {
			by = left[0]
		}
		for _, c := range l {
			if c != by && !slices.Contains(left, c) {
				revoked(t, x, by, c)
			}
		}
		if len(left) == 0 {
			revoked(t, x, by, by)
		}
		if x.Live() != len(left) || !slices.Equal(x.All(), left) || x.Root() != l[0] {
			t.Errorf("the choice %b: %d, %v, want %v", choice, x.Live(), x.All(), left)
		}
		if len(left) == 0 && (x.Revoke(by, by) != api.ErrBadCap || x.Check(by, 0) != api.ErrBadCap) {
			t.Error("one is good in a table that is empty")
		}
	}
}

// One without any rights is good as others are, and its slot is not empty.
func TestOneWithoutRightsIsThere(t *testing.T) {
	x, m := both(t, 3)
	for range 7 {
		m.mintBoth(t, x, x.Root(), 0)
		m.same(t, "no rights", x)
	}
	m.mintBoth(t, x, x.Root(), 0)
	m.same(t, "full", x)
	if x.Live() != 8 || x.Check(x.All()[7], 0) != api.OK {
		t.Error(x.Live())
	}
}

// P17.2

func TestRightsAndCheckOfEachSet(t *testing.T) {
	for _, s := range sixteen() {
		x := made(t, 1)
		c := minted(t, x, x.Root(), s)
		if lets, e := x.Rights(c); lets != s || e != api.OK {
			t.Errorf("minted of %d: %d, %d", s, lets, e)
		}
		for _, need := range sixteen() {
			want := api.ErrRights
			if all(need, s) {
				want = api.OK
			}
			if e := x.Check(c, need); e != want {
				t.Errorf("%d, and %d is needed: %d, want %d", s, need, e, want)
			}
			if e := x.Check(x.Root(), need); e != api.OK {
				t.Errorf("the root, and %d is needed: %d", need, e)
			}
		}
		for _, need := range others() {
			if x.Check(c, need) != api.ErrRights || x.Check(x.Root(), need) != api.ErrRights {
				t.Errorf("%d has all of %d", s, need)
			}
		}
	}
}

// wantBad looks that a capability is not good, by each call that is asked for
// one, and that nothing is changed by it (R2).
func wantBad(t *testing.T, what string, x *caps.Table, by, c api.Cap) {
	t.Helper()
	live := x.All()
	if s, e := x.Rights(c); s != 0 || e != api.ErrBadCap {
		t.Errorf("%s: Rights of %v: %d, %d", what, c, s, e)
	}
	for _, s := range []rights.Set{0, 1, 8, 15, 16, -1} {
		if e := x.Check(c, s); e != api.ErrBadCap {
			t.Errorf("%s: Check of %v for %d: %d", what, c, s, e)
		}
		if n, e := x.Mint(c, s); n != (api.Cap{}) || e != api.ErrBadCap {
			t.Errorf("%s: Mint by %v of %d: %v, %d", what, c, s, n, e)
		}
	}
	if x.Revoke(c, by) != api.ErrBadCap || x.Revoke(by, c) != api.ErrBadCap || x.Revoke(c, c) != api.ErrBadCap {
		t.Errorf("%s: Revoke by %v, or of it", what, c)
	}
	if !slices.Equal(x.All(), live) {
		t.Errorf("%s: %v made %v of %v", what, c, x.All(), live)
	}
}

// Slots 0, 1, 3 and 5 are not empty, slot 3 having been emptied and taken again.
func TestThoseThatAreNotGood(t *testing.T) {
	for _, epoch := range epochs() {
		x := made(t, epoch)
		root, g := x.Root(), epoch*million
		var l []api.Cap
		for range 5 {
			l = append(l, minted(t, x, root, 15))
		}
		revoked(t, x, root, l[2])
		again := minted(t, x, root, 1)
		revoked(t, x, root, l[1])
		revoked(t, x, root, l[3])
		if want := []api.Cap{root, {Slot: 1, Gen: g + 1}, {Slot: 3, Gen: g + 6}, {Slot: 5, Gen: g + 5}}; again != want[2] || !slices.Equal(x.All(), want) {
			t.Fatalf("%v, want %v", x.All(), want)
		}
		for what, those := range map[string][]api.Cap{
			"an empty slot":        {{Slot: 2, Gen: g + 1}, {Slot: 2, Gen: 0}, {Slot: 4, Gen: g}, {Slot: 6, Gen: g + 6}, {Slot: 7, Gen: g + 7}, {Slot: 7, Gen: 0}},
			"another one's":        {{Slot: 0, Gen: g + 1}, {Slot: 1, Gen: g}, {Slot: 3, Gen: g + 5}, {Slot: 5, Gen: g + 6}, {Slot: 5, Gen: g + 1}},
			"one ahead":            {{Slot: 0, Gen: g + 1}, {Slot: 1, Gen: g + 2}, {Slot: 3, Gen: g + 7}, {Slot: 5, Gen: g + 6}},
			"one behind":           {{Slot: 0, Gen: g - 1}, {Slot: 1, Gen: g}, {Slot: 3, Gen: g + 5}, {Slot: 5, Gen: g + 4}},
			"revoked":              {l[1], l[2], l[3], {Slot: 2, Gen: g + 2}, {Slot: 3, Gen: g + 3}, {Slot: 4, Gen: g + 4}},
			"the next one":         {{Slot: 2, Gen: g + 7}, {Slot: 6, Gen: g + 7}, {Slot: 3, Gen: g + 7}},
			"a generation far off": {{Slot: 1, Gen: 0}, {Slot: 1, Gen: 1}, {Slot: 1, Gen: -g - 1}, {Slot: 1, Gen: g + 1 + million}, {Slot: 1, Gen: g + 1 - million}, {Slot: 1, Gen: g + 1 + 1<<32}, {Slot: 1, Gen: math.MaxInt}, {Slot: 1, Gen: math.MinInt}},
			"all noughts":          {{}},
		} {
			for _, c := range those {
				wantBad(t, what, x, root, c)
			}
		}
		for _, slot := range far() {
			for _, gen := range []int{0, g, g + 1, g + 5, g + 6, g + 7, slot, math.MaxInt, math.MinInt} {
				wantBad(t, "a slot that is none", x, root, api.Cap{Slot: slot, Gen: gen})
			}
		}
	}
}

// What one table gave out is none of a table of another epoch.
func TestAnotherEpochsAreNotGood(t *testing.T) {
	for i, epoch := range epochs() {
		x, _ := full(t, epoch)
		for k, other := range epochs() {
			_, l := full(t, other)
			for _, c := range l {
				if i != k {
					wantBad(t, "another epoch's", x, x.Root(), c)
				}
			}
		}
	}
}

// P17.3

func TestMintOfTheExample(t *testing.T) {
	x := made(t, 1)
	c, e := x.Mint(x.Root(), rights.See)
	if c != (api.Cap{Slot: 1, Gen: 1048577}) || e != api.OK {
		t.Error(c, e)
	}
	if s, e := x.Rights(c); s != rights.See || e != api.OK {
		t.Error(s, e)
	}
}

// By each set of each set, those that may not be among them.
func TestMintByEachOfEach(t *testing.T) {
	for _, by := range sixteen() {
		for _, s := range append(sixteen(), others()...) {
			x, m := both(t, 4)
			c, _ := m.mintBoth(t, x, x.Root(), by)
			m.mintBoth(t, x, c, s)
			m.same(t, "minted", x)
			m.mintBoth(t, x, x.Root(), 1)
			m.same(t, "one more", x)
		}
	}
}

// What Mint is refused for, in the chapter's row, each alone and two of them
// together, at a table whose slots all are taken or not.
func TestMintsRow(t *testing.T) {
	for _, isFull := range []bool{false, true} {
		x := made(t, 6)
		root := x.Root()
		see := minted(t, x, root, 7)
		give := minted(t, x, root, 9)
		var rest []api.Cap
		for range 5 {
			rest = append(rest, minted(t, x, root, 15))
		}
		if !isFull {
			revoked(t, x, root, rest[4])
		}
		gone := api.Cap{Slot: 1, Gen: root.Gen}
		rows := []struct {
			what string
			c    api.Cap
			s    rights.Set
			want api.Errno
		}{
			{"not good", gone, 0, api.ErrBadCap},
			{"not good, of rights that may not be", gone, 16, api.ErrBadCap},
			{"not good, the zero one", api.Cap{}, 15, api.ErrBadCap},
			{"without Give", see, 1, api.ErrRights},
			{"without Give, of none", see, 0, api.ErrRights},
			{"without Give, of rights that may not be", see, 16, api.ErrRights},
			{"without Give, of all below 0", see, -1, api.ErrRights},
			{"without Give, of rights that it has not", see, 8, api.ErrRights},
			{"rights that may not be", root, 16, api.ErrArg},
			{"rights that may not be, below 0", root, -1, api.ErrArg},
			{"rights that may not be, and that it has not", give, 16 + 2, api.ErrArg},
			{"rights that may not be, below 0, and that it has not", give, -16 + 4, api.ErrArg},
			{"rights that it has not", give, 2, api.ErrRights},
			{"rights that it has not, beside some that it has", give, 13, api.ErrRights},
		}
		for _, r := range rows {
			live := x.All()
			for range 3 {
				if c, e := x.Mint(r.c, r.s); c != (api.Cap{}) || e != r.want {
					t.Errorf("full %t: %s: %v, %d, want %d", isFull, r.what, c, e, r.want)
				}
			}
			if !slices.Equal(x.All(), live) {
				t.Errorf("full %t: %s: %v of %v", isFull, r.what, x.All(), live)
			}
		}
		mintBehindRefusals(t, x, isFull)
	}
}

// mintBehindRefusals looks that behind those that were refused, and behind
// ErrFull, the next one has the next generation: none of them was counted.
func mintBehindRefusals(t *testing.T, x *caps.Table, isFull bool) {
	t.Helper()
	root := x.Root()
	if isFull {
		for _, s := range sixteen() {
			if c, e := x.Mint(root, s); c != (api.Cap{}) || e != api.ErrFull {
				t.Errorf("full: %v, %d", c, e)
			}
		}
		if x.Live() != 8 {
			t.Fatal(x.Live())
		}
		revoked(t, x, root, api.Cap{Slot: 7, Gen: root.Gen + 7})
	}
	if c, e := x.Mint(root, 15); c != (api.Cap{Slot: 7, Gen: root.Gen + 8}) || e != api.OK {
		t.Errorf("full %t: behind all: %v, %d", isFull, c, e)
	}
}

// A new one comes to the first slot that is empty, whichever others are and in
// whatever row they came to be; each generation is one more than the last one.
func TestMintTakesTheFirstEmptySlot(t *testing.T) {
	for choice := range 128 {
		x, l := full(t, 2)
		gen := l[7].Gen
		var empty []int
		for slot := 7; slot >= 1; slot-- {
			if choice>>(slot-1)%2 == 1 {
				revoked(t, x, l[0], l[slot])
				empty = append(empty, slot)
			}
		}
		for _, slot := range slices.Backward(empty) {
			gen++
			if c, e := x.Mint(l[0], 3); c != (api.Cap{Slot: slot, Gen: gen}) || e != api.OK {
				t.Fatalf("the choice %b: %v, %d, want %d, %d", choice, c, e, slot, gen)
			}
		}
		if c, e := x.Mint(l[0], 3); c != (api.Cap{}) || e != api.ErrFull || x.Live() != 8 {
			t.Fatalf("the choice %b, full again: %v, %d", choice, c, e)
		}
	}
}

// Slot 0 too is taken again, by one that is not the root.
func TestMintTakesTheRootsSlot(t *testing.T) {
	for slot := 1; slot < 8; slot++ {
		x, l := full(t, 9)
		revoked(t, x, l[slot], l[0])
		c, e := x.Mint(l[slot], 9)
		if c != (api.Cap{Slot: 0, Gen: l[7].Gen + 1}) || e != api.OK || x.Root() != l[0] {
			t.Errorf("by slot %d: %v, %d", slot, c, e)
		}
		wantBad(t, "the root that is gone", x, c, l[0])
	}
}

// 2^20 are given out, the root among them, and no more: neither while slots are
// empty nor when all are full. All generations lie within the table's epoch.
func TestMintOfAllThatATableHas(t *testing.T) {
	for _, epoch := range []int{1, 2, 1 << 30} {
		x := made(t, epoch)
		root := x.Root()
		last := root
		for n := 1; n < million; n++ {
			c, e := x.Mint(root, 9)
			if e != api.OK || c != (api.Cap{Slot: 1, Gen: epoch*million + n}) {
				t.Fatalf("of epoch %d: the mint %d: %v, %d", epoch, n, c, e)
			}
			if last != root && n < million-1 {
				wantGone(t, x, last)
			}
			if last = c; n < million-1 {
				revoked(t, x, root, c)
			}
		}
		if last.Gen != (epoch+1)*million-1 {
			t.Errorf("of epoch %d: the last one: %v", epoch, last)
		}
		wantNoMore(t, x, root, last)
	}
}

// wantGone looks that one that was revoked is not good.
func wantGone(t *testing.T, x *caps.Table, c api.Cap) {
	t.Helper()
	if e := x.Check(c, 0); e != api.ErrBadCap {
		t.Fatalf("%v was revoked: %d", c, e)
	}
}

// wantNoMore looks at a table that has given out all it has: what was refused
// for another reason still is, what is good still is, and can be revoked.
func wantNoMore(t *testing.T, x *caps.Table, root, last api.Cap) {
	t.Helper()
	for _, r := range []struct {
		c    api.Cap
		s    rights.Set
		want api.Errno
	}{
		{root, 15, api.ErrFull}, {root, 0, api.ErrFull}, {last, 9, api.ErrFull}, {last, 2, api.ErrRights}, {last, 18, api.ErrArg},
		{root, 16, api.ErrArg}, {api.Cap{}, 0, api.ErrBadCap}, {api.Cap{Slot: 1, Gen: last.Gen - 1}, 0, api.ErrBadCap},
	} {
		if c, e := x.Mint(r.c, r.s); c != (api.Cap{}) || e != r.want {
			t.Errorf("no more: by %v of %d: %v, %d, want %d", r.c, r.s, c, e, r.want)
		}
	}
	if !slices.Equal(x.All(), []api.Cap{root, last}) || x.Check(last, 9) != api.OK || x.Root() != root {
		t.Errorf("no more: %v", x.All())
	}
	revoked(t, x, last, root)
	if c, e := x.Mint(last, 0); c != (api.Cap{}) || e != api.ErrFull {
		t.Errorf("no more, and the first slot is empty: %v, %d", c, e)
	}
	revoked(t, x, last, last)
	if x.Live() != 0 || len(x.All()) != 0 || x.Root() != root {
		t.Errorf("none are left: %v", x.All())
	}
}

// Both reasons for ErrFull at once: all slots are full, and all were given out.
func TestMintAtBothEnds(t *testing.T) {
	x := made(t, 1)
	root := x.Root()
	for range million - 8 {
		revoked(t, x, root, minted(t, x, root, 0))
	}
	for range 7 {
		minted(t, x, root, 15)
	}
	for _, next := range []api.Cap{{Slot: 7, Gen: 2*million - 1}, {Slot: 3, Gen: 2*million - 5}, root} {
		if c, e := x.Mint(root, 0); c != (api.Cap{}) || e != api.ErrFull {
			t.Errorf("%d are left: %v, %d", x.Live(), c, e)
		}
		revoked(t, x, root, next)
	}
	if x.Live() != 5 {
		t.Error(x.Live())
	}
}

// P17.4

func TestRevokeByEachOfEach(t *testing.T) {
	for _, by := range sixteen() {
		for _, s := range sixteen() {
			x, m := both(t, 8)
			c, _ := m.mintBoth(t, x, x.Root(), by)
			what, _ := m.mintBoth(t, x, x.Root(), s)
			m.revokeBoth(t, x, c, what)
			m.same(t, "revoked", x)
			m.revokeBoth(t, x, c, what)
			m.same(t, "once more", x)
			m.mintBoth(t, x, x.Root(), 15)
			m.same(t, "and one more", x)
		}
	}
}

// One revokes what has more rights than itself, the root among these, and
// itself; nothing but that one slot is changed, and what was minted by it stays.
func TestRevokeOfItselfAndOfTheRoot(t *testing.T) {
	for i := range 8 {
		for k := range 8 {
			x, l := full(t, 2)
			revoked(t, x, l[i], l[k])
			left := slices.Delete(slices.Clone(l), k, k+1)
			if !slices.Equal(x.All(), left) || x.Root() != l[0] {
				t.Fatalf("slot %d revoked slot %d: %v", i, k, x.All())
			}
			for _, c := range left {
				if s, e := x.Rights(c); s != 15 || e != api.OK {
					t.Errorf("slot %d revoked slot %d: %v: %d, %d", i, k, c, s, e)
				}
			}
			wantBad(t, "revoked", x, left[0], l[k])
		}
	}
}

func TestRevokeByOneWithGiveAlone(t *testing.T) {
	x := made(t, 2)
	root := x.Root()
	give := minted(t, x, root, rights.Give)
	child := minted(t, x, give, rights.Give)
	revoked(t, x, child, root)
	revoked(t, x, child, give)
	if !slices.Equal(x.All(), []api.Cap{child}) || x.Check(child, 8) != api.OK {
		t.Error(x.All())
	}
	revoked(t, x, child, child)
	if x.Live() != 0 || x.Root() != root {
		t.Error(x.Live(), x.Root())
	}
}

// The chapter's row: one that is not good, or without Give, is told so whatever
// it would revoke.
func TestRevokesRow(t *testing.T) {
	x := made(t, 2)
	root := x.Root()
	see := minted(t, x, root, 7)
	none := minted(t, x, root, 0)
	gone := minted(t, x, root, 15)
	revoked(t, x, root, gone)
	live := x.All()
	for _, r := range []struct {
		what    string
		c, that api.Cap
		want    api.Errno
	}{
		{"not good", gone, see, api.ErrBadCap},
		{"not good, of the root", gone, root, api.ErrBadCap},
		{"not good, of itself", gone, gone, api.ErrBadCap},
		{"not good, of one that is not good", gone, api.Cap{}, api.ErrBadCap},
		{"without Give", see, none, api.ErrRights},
		{"without Give, of itself", see, see, api.ErrRights},
		{"without Give, of the root", none, root, api.ErrRights},
		{"without Give, of one that is not good", see, gone, api.ErrRights},
		{"without Give, of a slot that is none", see, api.Cap{Slot: 8, Gen: root.Gen}, api.ErrRights},
		{"of one that is not good", root, gone, api.ErrBadCap},
		{"of the zero one", root, api.Cap{}, api.ErrBadCap},
		{"of an empty slot", root, api.Cap{Slot: 7}, api.ErrBadCap},
		{"of a slot that is none", root, api.Cap{Slot: -1, Gen: root.Gen}, api.ErrBadCap},
		{"of one ahead", root, api.Cap{Slot: 1, Gen: see.Gen + 1}, api.ErrBadCap},
	} {
		if e := x.Revoke(r.c, r.that); e != r.want {
			t.Errorf("%s: %d, want %d", r.what, e, r.want)
		}
		if !slices.Equal(x.All(), live) || x.Check(see, 7) != api.OK || x.Check(none, 0) != api.OK {
			t.Errorf("%s: %v of %v", r.what, x.All(), live)
		}
	}
	if c, e := x.Mint(root, 1); c != (api.Cap{Slot: 3, Gen: root.Gen + 4}) || e != api.OK {
		t.Error(c, e)
	}
}

// P17.5

// Scripts by chance, each call of which is held against the model: by it what
// was revoked is never good again, and each has its rights by its minter's.
func TestScriptsByChance(t *testing.T) {
	rnd := rand.New(rand.NewSource(17))
	for script := range 120 {
		x, m := both(t, epochs()[script%len(epochs())])
		pick := func() api.Cap {
			if rnd.Intn(8) == 0 {
				l := m.bad()
				return l[rnd.Intn(len(l))]
			}
			if l := m.live(); len(l) > 0 && rnd.Intn(6) > 0 {
				return l[rnd.Intn(len(l))]
			}
			return m.all[rnd.Intn(len(m.all))].c
		}
		for range 150 {
			if rnd.Intn(5) < 3 {
				m.mintBoth(t, x, pick(), rights.Set(rnd.Intn(20)|rnd.Intn(16)&8))
			} else if c, what := pick(), pick(); c != what || rnd.Intn(20) == 0 {
				m.revokeBoth(t, x, c, what)
			}
			m.same(t, "by chance", x)
		}
		for _, c := range m.bad() {
			m.sameOf(t, "far and near", x, c)
		}
		m.wantFewer(t, x)
	}
}

// wantFewer looks that whatever is good has no more rights than the one that it
// was minted by.
func (m *model) wantFewer(t *testing.T, x *caps.Table) {
	t.Helper()
	for _, g := range m.all[1:] {
		if s, e := x.Rights(g.c); e == api.OK && !rights.Has(m.all[g.by].lets, s) {
			t.Errorf("%v has %d, and was minted by one that has %d", g.c, s, m.all[g.by].lets)
		}
	}
}

// All that was ever revoked is asked for again behind each of many that are
// given out, until each slot has been each slot's many times.
func TestWhatWasRevokedIsNeverGoodAgain(t *testing.T) {
	x := made(t, 3)
	giver := x.Root()
	seen, gone := map[api.Cap]bool{giver: true}, []api.Cap{}
	rnd := rand.New(rand.NewSource(5))
	for range 3000 {
		c := minted(t, x, giver, rights.Set(8+rnd.Intn(8)))
		if seen[c] {
			t.Fatalf("%v comes twice", c)
		}
		seen[c] = true
		if rnd.Intn(4) == 0 {
			c = minted(t, x, giver, 15)
			seen[c] = true
			gone = append(gone, giver)
			revoked(t, x, c, giver)
			giver = c
		}
		for x.Live() > 1+rnd.Intn(6) {
			l := x.All()
			if what := l[rnd.Intn(len(l))]; what != giver {
				gone = append(gone, what)
				revoked(t, x, giver, what)
			}
		}
		for range 40 {
			wantGoneOf(t, x, gone, rnd)
		}
	}
	for _, c := range gone {
		wantBad(t, "revoked", x, giver, c)
	}
}

// wantGoneOf looks at one of those that were revoked.
func wantGoneOf(t *testing.T, x *caps.Table, gone []api.Cap, rnd *rand.Rand) {
	t.Helper()
	if len(gone) > 0 {
		wantGone(t, x, gone[rnd.Intn(len(gone))])
	}
}

// Nobody comes by whatever many mints to a right that it has not.
func TestNobodyComesToMoreRights(t *testing.T) {
	for _, own := range sixteen() {
		x, m := both(t, 2)
		c, _ := m.mintBoth(t, x, x.Root(), own)
		m.revokeBoth(t, x, x.Root(), x.Root())
		for round := range 4 {
			for _, by := range x.All() {
				for _, s := range append(sixteen(), others()...) {
					n, e := m.mintBoth(t, x, by, s)
					lets, _ := x.Rights(n)
					if e == api.OK && !rights.Has(own, lets) {
						t.Fatalf("of %d: %v of %v has %d", own, n, by, lets)
					}
					if e == api.OK && round < 3 && s != own {
						m.revokeBoth(t, x, c, n)
					}
				}
			}
		}
		m.same(t, "at the end", x)
	}
}

// R1 to R5

// Capabilities are held against each other by ==, and may be a map's keys.
func TestCapabilitiesAreCompared(t *testing.T) {
	_, l := full(t, 7)
	_, k := full(t, 7)
	at := map[api.Cap]int{}
	for i, c := range l {
		if c != k[i] || c == (api.Cap{}) {
			t.Errorf("%v and %v", c, k[i])
		}
		at[c] = i
	}
	for i, c := range k {
		if at[c] != i || len(at) != 8 {
			t.Errorf("%v is %d of %d", c, at[c], len(at))
		}
	}
}

// What All tells is new: it may be written to, with its spare room, without a
// change of the table or of what was told ahead.
func TestWhatAllToldIsNew(t *testing.T) {
	for n := range 8 {
		x, m := both(t, 7)
		for range n {
			m.mintBoth(t, x, x.Root(), 15)
		}
		one, two := x.All(), x.All()
		spoil(one)
		if !slices.Equal(two, m.live()) {
			t.Fatalf("two lists share memory: %v", two)
		}
		m.same(t, "one was written to", x)
		was := slices.Clone(two)
		m.mintBoth(t, x, x.Root(), 1)
		m.revokeBoth(t, x, two[n], two[0])
		if !slices.Equal(two, was) {
			t.Fatalf("what was told is changed: %v", two)
		}
		spoil(x.All())
		m.same(t, "at the end", x)
	}
}

// spoil writes to a list and all of its spare room, and puts more behind it.
func spoil(l []api.Cap) {
	l = l[:cap(l)]
	for i := range l {
		l[i] = api.Cap{Slot: 3, Gen: 99}
	}
	l = append(l, api.Cap{Slot: 4, Gen: 98})
	l[0] = api.Cap{Slot: 5, Gen: 97}
}

// told is what is told by a call, whichever it is.
type told struct {
	c api.Cap
	s rights.Set
	e api.Errno
	n int
}

// do does one of the calls that a byte's bits choose, by and of capabilities
// that others choose.
func do(x *caps.Table, what, by, of byte) told {
	at := func(b byte) api.Cap {
		if l := x.All(); b < 224 && len(l) > 0 {
			return l[int(b)%len(l)]
		}
		return api.Cap{Slot: int(b)%10 - 1, Gen: x.Root().Gen + int(b)%32}
	}
	switch what % 5 {
	case 0, 1:
		c, e := x.Mint(at(by), rights.Set(of%18)|rights.Set(what/16%2*8))
		return told{c: c, e: e}
	case 2:
		return told{e: x.Revoke(at(by), at(of))}
	case 3:
		s, e := x.Rights(at(by))
		return told{s: s, e: e, n: x.Live()}
	}
	return told{c: x.Root(), e: x.Check(at(by), rights.Set(of%18))}
}

// The same calls on two tables tell the same, whatever is asked of a third one
// between them.
func TestTwoTablesTellTheSame(t *testing.T) {
	rnd := rand.New(rand.NewSource(2))
	for range 200 {
		one, two, third := made(t, 6), made(t, 6), made(t, 6)
		for range 100 {
			what, by, of := byte(rnd.Intn(256)), byte(rnd.Intn(256)), byte(rnd.Intn(256))
			first := do(one, what, by, of)
			do(third, byte(rnd.Intn(256)), byte(rnd.Intn(256)), byte(rnd.Intn(256)))
			if second := do(two, what, by, of); first != second {
				t.Fatalf("%v and %v", first, second)
			}
			if !slices.Equal(one.All(), two.All()) {
				t.Fatalf("%v and %v", one.All(), two.All())
			}
		}
	}
}

// FuzzTable holds a script of calls, three bytes each, against the model.
func FuzzTable(f *testing.F) {
	f.Add(1, []byte{0, 0, 1, 0, 0, 9, 2, 1, 0, 0, 1, 8})
	f.Add(1<<30, []byte{0, 0, 15, 2, 0, 0, 1, 0, 15, 2, 255, 0})
	f.Add(0, []byte{0, 0, 0})
	f.Add(77, slices.Repeat([]byte{0, 0, 15}, 9))
	f.Fuzz(func(t *testing.T, epoch int, script []byte) {
		x, e := caps.New(epoch)
		if may := epoch >= 1 && epoch <= 1<<30; may != (x != nil) || may != (e == api.OK) || !may && e != api.ErrArg {
			t.Fatalf("New(%d): %v, %d", epoch, x, e)
		}
		if x == nil {
			return
		}
		m := newModel(epoch)
		for i := 0; i+3 <= len(script) && i < 600; i += 3 {
			near := m.bad()
			by, of := near[int(script[i+1])%len(near)], near[int(script[i+2])%len(near)]
			if l := m.live(); len(l) > 0 && script[i]&4 == 0 {
				by = l[int(script[i+1])%len(l)]
			}
			if l := m.live(); len(l) > 0 && script[i]&8 == 0 {
				of = l[int(script[i+2])%len(l)]
			}
			if script[i]%4 < 3 {
				m.mintBoth(t, x, by, rights.Set(int8(script[i+2])))
			} else {
				m.revokeBoth(t, x, by, of)
			}
			m.same(t, "the script", x)
		}
	})
}
