package extent_test

import (
	"math"
	"math/rand"
	"slices"
	"testing"

	"allotment/api"
	"allotment/config"
	"allotment/extent"
)

// place is whose a sector is; is says that it is somebody's.
type place struct {
	tenant, page, k int
	is              bool
}

// nobody is what is told of a sector that is none's.
var nobody = place{}

// part is a part, in the row of its fields.
func part(quota, base, pages int) api.Part {
	return api.Part{Quota: quota, Base: base, Pages: pages}
}

// of is a configuration of parts on a device of so many sectors.
func of(sectors int, parts ...api.Part) api.Config {
	c := api.Config{Depth: 1, Sectors: sectors, Parts: parts}
	for _, p := range parts {
		c.Frames += p.Quota
	}
	return c
}

// plain has two parts, which fill their device: the second one begins at 4.
func plain() api.Config { return of(8, part(1, 0, 2), part(2, 4, 2)) }

// gaps has parts that do not lie in their row, one of them at a place that is
// not even, with sectors that are none's ahead of them, between them and
// behind them.
func gaps() api.Config { return of(40, part(3, 20, 4), part(1, 1, 3), part(2, 30, 1)) }

// dense has 16 parts side by side, the last tenant's first, which fill their
// device.
func dense() api.Config {
	c := of(0)
	for i := range api.MaxTenants {
		p := part(1+i%4, c.Sectors, 1+i)
		c.Parts = append([]api.Part{p}, c.Parts...)
		c.Frames, c.Sectors = c.Frames+p.Quota, c.Sectors+2*p.Pages
	}
	return c
}

// wide has 8 parts of as many pages as may be: all sectors that there may be.
func wide() api.Config {
	var parts []api.Part
	for i := range 8 {
		parts = append(parts, part(8, 128*(7-i), 64))
	}
	return of(1024, parts...)
}

// small is as little as may be.
func small() api.Config { return of(2, part(1, 0, 1)) }

// drawn is a configuration by chance that may be.
func drawn(rnd *rand.Rand) api.Config {
	var parts []api.Part
	sectors := rnd.Intn(3)
	for range 1 + rnd.Intn(16) {
		p := part(1+rnd.Intn(4), sectors, 1+rnd.Intn(24))
		parts, sectors = append(parts, p), sectors+2*p.Pages+rnd.Intn(3)
	}
	rnd.Shuffle(len(parts), func(i, j int) { parts[i], parts[j] = parts[j], parts[i] })
	return of(sectors, parts...)
}

// some are configurations that may be: the edges, and others by chance.
func some(t testing.TB) []api.Config {
	t.Helper()
	l := []api.Config{plain(), gaps(), dense(), wide(), small(),
		of(3, part(1, 1, 1)), of(3, part(1, 0, 1)), of(128, part(64, 0, 64)), of(1024, part(1, 0, 1)), of(1024, part(1, 1022, 1)), of(1024, part(1, 896, 64)),
		of(6, part(1, 4, 1), part(1, 2, 1), part(1, 0, 1)), of(9, part(1, 6, 1), part(1, 3, 1), part(1, 0, 1))}
	rnd := rand.New(rand.NewSource(7))
	for range 60 {
		l = append(l, drawn(rnd))
	}
	for _, c := range l {
		if where, k := config.Check(c); where != "" {
			t.Fatalf("%v may not be: %s, %d", c, where, k)
		}
	}
	return l
}

// laid is whose each sector is, gone through one behind the other.
func laid(c api.Config) []place {
	l := make([]place, c.Sectors)
	for tenant, p := range c.Parts {
		at := p.Base
		for page := range p.Pages {
			l[at] = place{tenant, page, 0, true}
			l[at+1] = place{tenant, page, 1, true}
			at += 2
		}
	}
	return l
}

// far are numbers that are no tenant's, no page's, no k and no sector's, such
// among them as are right ones if some of their bits are not looked at, or if
// they go round where they are doubled or added to.
func far() []int {
	return []int{-1, -2, -3, -16, -64, -1024, -1 << 31, -1 << 32, -1<<32 + 1, -1 << 62, -1<<62 - 1, -1 << 63, math.MinInt + 1, math.MinInt + 2, math.MinInt + 4,
		1025, 1 << 16, 1 << 31, 1 << 32, 1<<32 + 1, 1 << 62, 1<<62 + 1, 1<<62 + 2, math.MaxInt - 4, math.MaxInt - 1, math.MaxInt}
}

// wantSector holds Sector against what it should tell.
func wantSector(t *testing.T, c api.Config, tenant, page, k, want int, errno api.Errno) {
	t.Helper()
	if s, e := extent.Sector(c, tenant, page, k); s != want || e != errno {
		t.Errorf("Sector(%v, %d, %d, %d): %d, %d; want %d, %d", c, tenant, page, k, s, e, want, errno)
	}
}

// wantAll holds All against what it should tell.
func wantAll(t *testing.T, c api.Config, tenant, page int, want [2]int, errno api.Errno) {
	t.Helper()
	if l, e := extent.All(c, tenant, page); l != want || e != errno {
		t.Errorf("All(%v, %d, %d): %v, %d; want %v, %d", c, tenant, page, l, e, want, errno)
	}
}

// wantNone holds Sector, of each k, and All against an error that is not k's.
func wantNone(t *testing.T, c api.Config, tenant, page int, errno api.Errno) {
	t.Helper()
	for _, k := range append(far(), 0, 1, 2, 3) {
		wantSector(t, c, tenant, page, k, 0, errno)
	}
	wantAll(t, c, tenant, page, [2]int{}, errno)
}

// owner is Owner's answer as one.
func owner(c api.Config, sector int) place {
	tenant, page, k, is := extent.Owner(c, sector)
	return place{tenant, page, k, is}
}

// wantOwner holds Owner against what it should tell.
func wantOwner(t *testing.T, c api.Config, sector int, want place) {
	t.Helper()
	if got := owner(c, sector); got != want {
		t.Errorf("Owner(%v, %d): %v, want %v", c, sector, got, want)
	}
}

// wantRange holds Range against what it should tell.
func wantRange(t *testing.T, c api.Config, tenant, first, end int) {
	t.Helper()
	if from, to := extent.Range(c, tenant); from != first || to != end {
		t.Errorf("Range(%v, %d): %d, %d; want %d, %d", c, tenant, from, to, first, end)
	}
}

// P7.1

func TestSectorsOfPages(t *testing.T) {
	wantSector(t, plain(), 1, 1, 0, 6, api.OK)
	for _, x := range []struct {
		c                     api.Config
		tenant, page, k, want int
	}{
		{plain(), 0, 0, 0, 0}, {plain(), 0, 0, 1, 1}, {plain(), 0, 1, 0, 2}, {plain(), 0, 1, 1, 3},
		{plain(), 1, 0, 0, 4}, {plain(), 1, 0, 1, 5}, {plain(), 1, 1, 1, 7},
		{gaps(), 0, 0, 0, 20}, {gaps(), 0, 3, 1, 27}, {gaps(), 1, 0, 0, 1}, {gaps(), 1, 2, 1, 6}, {gaps(), 2, 0, 0, 30}, {gaps(), 2, 0, 1, 31},
		{small(), 0, 0, 0, 0}, {small(), 0, 0, 1, 1},
		{wide(), 0, 0, 0, 896}, {wide(), 0, 63, 1, 1023}, {wide(), 7, 0, 0, 0}, {wide(), 7, 63, 1, 127}, {wide(), 3, 31, 0, 574},
		{dense(), 15, 0, 0, 0}, {dense(), 15, 0, 1, 1}, {dense(), 14, 0, 0, 2}, {dense(), 0, 0, 0, 240}, {dense(), 0, 15, 1, 271},
	} {
		wantSector(t, x.c, x.tenant, x.page, x.k, x.want, api.OK)
	}
}

func TestBothSectorsOfAPage(t *testing.T) {
	for _, x := range []struct {
		c            api.Config
		tenant, page int
		want         [2]int
	}{
		{plain(), 0, 0, [2]int{0, 1}}, {plain(), 1, 0, [2]int{4, 5}}, {plain(), 1, 1, [2]int{6, 7}},
		{gaps(), 1, 0, [2]int{1, 2}}, {gaps(), 1, 2, [2]int{5, 6}}, {gaps(), 2, 0, [2]int{30, 31}},
		{small(), 0, 0, [2]int{0, 1}}, {wide(), 0, 63, [2]int{1022, 1023}}, {dense(), 15, 0, [2]int{0, 1}},
	} {
		wantAll(t, x.c, x.tenant, x.page, x.want, api.OK)
	}
}

// All pages of all tenants, held against the device gone through sector by
// sector.
func TestAllPages(t *testing.T) {
	for _, c := range some(t) {
		for s, p := range laid(c) {
			if p.is {
				wantSector(t, c, p.tenant, p.page, p.k, s, api.OK)
				wantAll(t, c, p.tenant, p.page, [2]int{s - p.k, s - p.k + 1}, api.OK)
			}
		}
	}
}

// A tenant that there is not is told ahead of all else that is wrong.
func TestNoSuchPart(t *testing.T) {
	for _, c := range some(t)[:20] {
		n := len(c.Parts)
		for _, tenant := range append(far(), n, n+1, 16, 17, 64) {
			for _, page := range []int{0, 1, -1, 64, math.MinInt, math.MaxInt} {
				wantNone(t, c, tenant, page, api.ErrArg)
			}
		}
	}
}

// Each part has as many pages as it says, whatever the other parts say.
func TestNoSuchPage(t *testing.T) {
	for _, c := range some(t)[:20] {
		for tenant, p := range c.Parts {
			wantSector(t, c, tenant, p.Pages-1, 1, p.Base+2*p.Pages-1, api.OK)
			for _, page := range append(far(), p.Pages, p.Pages+1, 64, 65, c.Sectors) {
				wantNone(t, c, tenant, page, api.ErrRange)
			}
		}
	}
}

// A k of the page behind, or of the page ahead, is none either.
func TestNoSuchK(t *testing.T) {
	for _, c := range some(t)[:20] {
		for tenant, p := range c.Parts {
			for _, page := range []int{0, p.Pages / 2, p.Pages - 1} {
				for _, k := range append(far(), 2, 3, 4, 5, 16, 64) {
					wantSector(t, c, tenant, page, k, 0, api.ErrRange)
				}
				wantSector(t, c, tenant, page, 0, p.Base+2*page, api.OK)
				wantSector(t, c, tenant, page, 1, p.Base+2*page+1, api.OK)
			}
		}
	}
}

// P7.2

func TestOwners(t *testing.T) {
	for _, x := range []struct {
		c      api.Config
		sector int
		want   place
	}{
		{plain(), 0, place{0, 0, 0, true}}, {plain(), 1, place{0, 0, 1, true}}, {plain(), 3, place{0, 1, 1, true}},
		{plain(), 4, place{1, 0, 0, true}}, {plain(), 6, place{1, 1, 0, true}}, {plain(), 7, place{1, 1, 1, true}}, {plain(), 8, nobody}, {plain(), -1, nobody},
		{gaps(), 0, nobody}, {gaps(), 1, place{1, 0, 0, true}}, {gaps(), 2, place{1, 0, 1, true}}, {gaps(), 6, place{1, 2, 1, true}}, {gaps(), 7, nobody},
		{gaps(), 19, nobody}, {gaps(), 20, place{0, 0, 0, true}}, {gaps(), 27, place{0, 3, 1, true}}, {gaps(), 28, nobody}, {gaps(), 29, nobody},
		{gaps(), 30, place{2, 0, 0, true}}, {gaps(), 31, place{2, 0, 1, true}}, {gaps(), 32, nobody}, {gaps(), 39, nobody}, {gaps(), 40, nobody},
		{wide(), 0, place{7, 0, 0, true}}, {wide(), 127, place{7, 63, 1, true}}, {wide(), 128, place{6, 0, 0, true}}, {wide(), 1023, place{0, 63, 1, true}}, {wide(), 1024, nobody},
		{dense(), 1, place{15, 0, 1, true}}, {dense(), 2, place{14, 0, 0, true}}, {dense(), 271, place{0, 15, 1, true}}, {dense(), 272, nobody},
	} {
		wantOwner(t, x.c, x.sector, x.want)
	}
}

// Each sector of a device; as many of them are none's as config tells.
func TestOwnerOfEachSector(t *testing.T) {
	for _, c := range some(t) {
		free := 0
		for s, want := range laid(c) {
			wantOwner(t, c, s, want)
			if owner(c, s) == nobody {
				free++
			}
		}
		if free != config.Free(c) {
			t.Errorf("%v: %d sectors are none's", c, free)
		}
	}
}

func TestOwnerOfNoSector(t *testing.T) {
	for _, c := range some(t) {
		for _, s := range append(far(), c.Sectors, c.Sectors+1, c.Sectors+2) {
			wantOwner(t, c, s, nobody)
		}
	}
}

func TestRanges(t *testing.T) {
	for _, x := range []struct {
		c                  api.Config
		tenant, first, end int
	}{
		{plain(), 0, 0, 4}, {plain(), 1, 4, 8}, {plain(), 2, 0, 0}, {plain(), -1, 0, 0},
		{gaps(), 0, 20, 28}, {gaps(), 1, 1, 7}, {gaps(), 2, 30, 32}, {gaps(), 3, 0, 0}, {gaps(), -1, 0, 0},
		{small(), 0, 0, 2}, {small(), 1, 0, 0},
		{wide(), 0, 896, 1024}, {wide(), 7, 0, 128}, {wide(), 8, 0, 0},
		{dense(), 0, 240, 272}, {dense(), 15, 0, 2}, {dense(), 16, 0, 0},
	} {
		wantRange(t, x.c, x.tenant, x.first, x.end)
	}
}

// A range begins with the first sector that is the tenant's, and ends behind
// the last one.
func TestRangeOfEachTenant(t *testing.T) {
	for _, c := range some(t) {
		l := laid(c)
		for tenant := range c.Parts {
			own := func(p place) bool { return p.is && p.tenant == tenant }
			first := slices.IndexFunc(l, own)
			last := first
			for s, p := range l {
				if own(p) {
					last = s
				}
			}
			wantRange(t, c, tenant, first, last+1)
		}
	}
}

func TestRangeOfNoTenant(t *testing.T) {
	for _, c := range some(t) {
		for _, tenant := range append(far(), len(c.Parts), len(c.Parts)+1, 16, 17) {
			wantRange(t, c, tenant, 0, 0)
		}
	}
}

// P7.3

// What the calls tell, held against one another alone: no sector is two
// pages', and each one's owner is the page of which it is told.
func TestNoSectorIsTwoPages(t *testing.T) {
	for _, c := range some(t) {
		met := map[int]place{}
		for tenant, p := range c.Parts {
			for page := range p.Pages {
				both, e := extent.All(c, tenant, page)
				if e != api.OK {
					t.Fatalf("All(%v, %d, %d): %d", c, tenant, page, e)
				}
				for k, s := range both {
					self := place{tenant, page, k, true}
					if other, is := met[s]; is {
						t.Errorf("%v: the sector %d is %v's and %v's", c, s, other, self)
					}
					met[s] = self
					wantSector(t, c, tenant, page, k, s, api.OK)
					wantOwner(t, c, s, self)
				}
			}
		}
		for s := -2; s < c.Sectors+2; s++ {
			wantOwner(t, c, s, met[s])
		}
	}
}

// What is told of a sector is told back as that sector.
func TestOwnersPageHasTheSector(t *testing.T) {
	for _, c := range some(t) {
		for s := range c.Sectors {
			if p := owner(c, s); p.is {
				wantSector(t, c, p.tenant, p.page, p.k, s, api.OK)
			}
		}
	}
}

// A tenant's range has all sectors of its pages and no others, and lies on the
// device.
func TestRangeHasAllOfATenantsSectors(t *testing.T) {
	for _, c := range some(t) {
		for tenant, p := range c.Parts {
			var pages, whole []int
			for page := range p.Pages {
				both, _ := extent.All(c, tenant, page)
				pages = append(pages, both[:]...)
			}
			from, to := extent.Range(c, tenant)
			for s := from; s < to; s++ {
				whole = append(whole, s)
			}
			if slices.Sort(pages); !slices.Equal(pages, whole) || from < 0 || to > c.Sectors {
				t.Errorf("%v: the range of %d is %v, its pages' sectors are %v", c, tenant, whole, pages)
			}
			for s := range c.Sectors {
				if got := owner(c, s); (got.is && got.tenant == tenant) != (s >= from && s < to) {
					t.Errorf("%v: %d to %d is the range of %d, and %d is %v's", c, from, to, tenant, s, got)
				}
			}
		}
	}
}

// R1, R4 and R5

// ask asks all calls, of right numbers and of wrong ones.
func ask(c api.Config) {
	numbers := append(far(), 0, 1, 2, 15, 16, 63, 64)
	for _, a := range numbers {
		extent.Owner(c, a)
		extent.Range(c, a)
		for _, b := range numbers {
			extent.All(c, a, b)
			for _, k := range []int{math.MinInt, -1, 0, 1, 2, math.MaxInt} {
				extent.Sector(c, a, b, k)
			}
		}
	}
}

// roomy is c, its list with spare room, in which parts stand that are not c's.
func roomy(c api.Config) api.Config {
	whole := append(slices.Clone(c.Parts), part(1, c.Sectors, 1), part(1, 0, 64), part(1, 500, 64))
	c.Parts = whole[:len(c.Parts):len(whole)]
	return c
}

func TestWhatIsHandedInIsNotChanged(t *testing.T) {
	for _, c := range some(t) {
		own := roomy(c)
		whole := slices.Clone(own.Parts[:cap(own.Parts)])
		ask(own)
		if !slices.Equal(own.Parts[:cap(own.Parts)], whole) {
			t.Fatalf("%v became %v", whole, own.Parts[:cap(own.Parts)])
		}
	}
}

// What stands in the list's spare room is no part.
func TestSpareRoomIsNotLookedAt(t *testing.T) {
	for _, c := range some(t) {
		own := roomy(c)
		for more := range 4 {
			wantNone(t, own, len(c.Parts)+more, 0, api.ErrArg)
			wantRange(t, own, len(c.Parts)+more, 0, 0)
		}
		for s, want := range append(laid(c), nobody, nobody) {
			wantOwner(t, own, s, want)
		}
	}
}

// Nothing is kept: what is done to a configuration behind a call is seen by
// the next call, and by no answer that was told ahead.
func TestNothingIsKept(t *testing.T) {
	c := gaps()
	first, _ := extent.All(c, 1, 2)
	second, _ := extent.All(c, 1, 2)
	first[0], first[1] = -7, -8
	c.Parts[1].Base = 8
	if second != [2]int{5, 6} {
		t.Errorf("what was told became %v", second)
	}
	wantAll(t, c, 1, 2, [2]int{12, 13}, api.OK)
	wantSector(t, c, 1, 2, 1, 13, api.OK)
	wantRange(t, c, 1, 8, 14)
	wantOwner(t, c, 1, nobody)
	wantOwner(t, c, 13, place{1, 2, 1, true})
	c.Parts = c.Parts[:1]
	wantNone(t, c, 1, 2, api.ErrArg)
	wantOwner(t, c, 13, nobody)
	wantAll(t, gaps(), 1, 2, [2]int{5, 6}, api.OK)
}

// Of configurations that may not be nothing is promised but that no call
// panics.
func TestConfigurationsThatMayNotBe(t *testing.T) {
	for _, parts := range [][]api.Part{nil, {}, gaps().Parts[:0]} {
		c := of(8, parts...)
		ask(c)
		wantNone(t, c, 0, 0, api.ErrArg)
		wantRange(t, c, 0, 0, 0)
		wantOwner(t, c, 0, nobody)
	}
	for _, base := range far() {
		for _, pages := range far() {
			ask(of(8, part(1, base, pages), part(1, base, 2)))
		}
	}
	ask(of(8, slices.Repeat([]api.Part{part(1, 0, 1)}, 100)...))
}

// FuzzExtent holds all calls against the device gone through sector by sector,
// of a configuration by chance.
func FuzzExtent(f *testing.F) {
	f.Add(int64(1), 0, 0, 0, 0)
	f.Add(int64(2), 3, 5, 1, 40)
	f.Add(int64(3), -1, 64, 2, -1)
	f.Add(int64(4), math.MaxInt, math.MinInt, math.MaxInt, math.MinInt)
	f.Fuzz(func(t *testing.T, seed int64, tenant, page, k, sector int) {
		c := drawn(rand.New(rand.NewSource(seed)))
		l := laid(c)
		first, at := slices.Index(l, place{tenant, page, 0, true}), slices.Index(l, place{tenant, page, k, true})
		switch {
		case tenant < 0 || tenant >= len(c.Parts):
			wantNone(t, c, tenant, page, api.ErrArg)
			wantRange(t, c, tenant, 0, 0)
		case first < 0:
			wantNone(t, c, tenant, page, api.ErrRange)
		case at < 0:
			wantSector(t, c, tenant, page, k, 0, api.ErrRange)
		default:
			wantSector(t, c, tenant, page, k, at, api.OK)
			wantAll(t, c, tenant, page, [2]int{first, first + 1}, api.OK)
		}
		want := nobody
		if sector >= 0 && sector < len(l) {
			want = l[sector]
		}
		wantOwner(t, c, sector, want)
	})
}
