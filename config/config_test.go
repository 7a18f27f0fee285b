package config_test

import (
	"math"
	"math/big"
	"math/rand"
	"slices"
	"testing"

	"allotment/api"
	"allotment/config"
)

// fault is what Check tells.
type fault struct {
	where string
	part  int
}

// none is the fault of a configuration that may be.
var none = fault{}

// check is Check's answer as one.
func check(c api.Config) fault {
	where, part := config.Check(c)
	return fault{where, part}
}

// want holds Check and May against one fault.
func want(t *testing.T, c api.Config, f fault) {
	t.Helper()
	if got := check(c); got != f {
		t.Errorf("Check(%v): %v, want %v", c, got, f)
	}
	if got := config.May(c); got != (f == none) {
		t.Errorf("May(%v): %v", c, got)
	}
}

// part is a part, in the row of its fields.
func part(quota, base, pages int) api.Part {
	return api.Part{Quota: quota, Base: base, Pages: pages}
}

// plain is the chapter's example, new at each call.
func plain() api.Config {
	return api.Config{Frames: 3, Depth: 2, Sectors: 8, Parts: []api.Part{part(1, 0, 2), part(2, 4, 2)}}
}

// three is a configuration of three parts that may be, with sectors that are
// no part's ahead of them, between them and behind them.
func three() api.Config {
	return api.Config{Frames: 6, Depth: 8, Sectors: 40, Parts: []api.Part{part(3, 20, 4), part(1, 1, 3), part(2, 30, 1)}}
}

// with is c, with a list of its own, changed by f.
func with(c api.Config, f func(c *api.Config)) api.Config {
	c.Parts = slices.Clone(c.Parts)
	f(&c)
	return c
}

// many is a configuration of n parts of one frame and one page.
func many(n int) api.Config {
	c := api.Config{Frames: n, Depth: 1, Sectors: api.MaxSectors}
	for i := range n {
		c.Parts = append(c.Parts, api.Part{Quota: 1, Base: 2 * i, Pages: 1})
	}
	return c
}

// far are numbers that are in no field right: far below 0, and far beyond
// every limit, such among them as go round if they are doubled or added.
func far() []int {
	return []int{-1, -2, -64, -1024, -1 << 31, -1 << 32, -1 << 62, -1<<62 - 1, math.MinInt, math.MinInt + 1, math.MinInt + 1024,
		1025, 1 << 16, 1 << 31, 1<<32 + 1, 1 << 62, 1<<62 + 1, 1<<62 + 4, math.MaxInt - 1024, math.MaxInt - 1, math.MaxInt}
}

// ordered are all rows in which parts can stand.
func ordered(parts []api.Part) [][]api.Part {
	if len(parts) == 0 {
		return [][]api.Part{nil}
	}
	var all [][]api.Part
	for i, p := range parts {
		for _, rest := range ordered(slices.Concat(parts[:i], parts[i+1:])) {
			all = append(all, append([]api.Part{p}, rest...))
		}
	}
	return all
}

// behind is the sector behind a part's last one, by numbers without an end.
func behind(p api.Part) *big.Int {
	pages := new(big.Int).Mul(big.NewInt(2), big.NewInt(int64(p.Pages)))
	return pages.Add(pages, big.NewInt(int64(p.Base)))
}

// owners is how many parts have a sector, by sectors one for one.
func owners(c api.Config) map[int]int {
	has := map[int]int{}
	for _, p := range c.Parts {
		for i := range 2 * p.Pages {
			has[p.Base+i]++
		}
	}
	return has
}

// of is what Check must tell, by the rows of the chapter's table.
func of(c api.Config) fault {
	not := func(n, most int) bool { return n < 1 || n > most }
	for _, row := range []struct {
		wrong bool
		where string
	}{{not(len(c.Parts), 16), "parts"}, {not(c.Frames, 64), "frames"}, {not(c.Depth, 8), "depth"}, {not(c.Sectors, 1024), "sectors"}} {
		if row.wrong {
			return fault{row.where, 0}
		}
	}
	taken, sum := map[int]bool{}, 0
	for k, p := range c.Parts {
		switch {
		case not(p.Quota, 64):
			return fault{"quota", k}
		case not(p.Pages, 64):
			return fault{"pages", k}
		case p.Base < 0 || behind(p).Cmp(big.NewInt(int64(c.Sectors))) > 0:
			return fault{"base", k}
		}
		for i := range 2 * p.Pages {
			if taken[p.Base+i] {
				return fault{"extent", k}
			}
		}
		for i := range 2 * p.Pages {
			taken[p.Base+i] = true
		}
		sum += p.Quota
	}
	if sum != c.Frames {
		return fault{"sum", 0}
	}
	return none
}

// draw is a configuration by chance: most of its numbers are near limits, so
// that many may be, and many are wrong by little.
func draw(rnd *rand.Rand) api.Config {
	near := func(most int) int { return rnd.Intn(most+2) - rnd.Intn(50)/49 }
	c := api.Config{Depth: 1 + rnd.Intn(8), Sectors: 1 + rnd.Intn(60)}
	for range rnd.Intn(5) {
		p := api.Part{Quota: 1 + rnd.Intn(9), Base: near(c.Sectors), Pages: 1 + rnd.Intn(8)}
		c.Parts, c.Frames = append(c.Parts, p), c.Frames+p.Quota
	}
	wrong := [](func()){
		func() { c.Frames = near(64) },
		func() { c.Depth = near(8) },
		func() { c.Sectors = []int{0, 1025, near(1024)}[rnd.Intn(3)] },
		func() { c.Frames += 1 - rnd.Intn(3) },
		func() { c.Parts = append(c.Parts, many(rnd.Intn(17)).Parts...) },
	}
	for range rnd.Intn(4) / 2 {
		wrong[rnd.Intn(len(wrong))]()
	}
	if n := len(c.Parts); n > 0 && rnd.Intn(3) == 0 {
		p := &c.Parts[rnd.Intn(n)]
		field := []*int{&p.Quota, &p.Base, &p.Pages}[rnd.Intn(3)]
		*field = []int{0, 64, 65, far()[rnd.Intn(len(far()))]}[rnd.Intn(4)]
	}
	return c
}

// drawMay is a configuration by chance that may be.
func drawMay(rnd *rand.Rand) api.Config {
	c := api.Config{Depth: 1 + rnd.Intn(8)}
	for range 1 + rnd.Intn(16) {
		c.Sectors += rnd.Intn(3)
		p := api.Part{Quota: 1 + rnd.Intn(4), Base: c.Sectors, Pages: 1 + rnd.Intn(24)}
		c.Parts, c.Frames, c.Sectors = append(c.Parts, p), c.Frames+p.Quota, c.Sectors+2*p.Pages
	}
	c.Sectors += rnd.Intn(3)
	rnd.Shuffle(len(c.Parts), func(i, j int) { c.Parts[i], c.Parts[j] = c.Parts[j], c.Parts[i] })
	return c
}

// P5.1

func TestConfigurationsThatMayBe(t *testing.T) {
	want(t, plain(), none)
	want(t, three(), none)
	want(t, api.Config{Frames: 1, Depth: 1, Sectors: 2, Parts: []api.Part{part(1, 0, 1)}}, none)
	want(t, api.Config{Frames: 64, Depth: 8, Sectors: 1024, Parts: []api.Part{part(64, 896, 64)}}, none)
	rnd := rand.New(rand.NewSource(5))
	for range 2000 {
		want(t, drawMay(rnd), none)
	}
}

func TestHowManyParts(t *testing.T) {
	for n := range 40 {
		f := none
		if n < 1 || n > 16 {
			f = fault{"parts", 0}
		}
		want(t, many(n), f)
	}
	for _, no := range [][]api.Part{nil, {}, make([]api.Part, 0, 4)} {
		want(t, with(plain(), func(c *api.Config) { c.Parts = no[:0:cap(no)] }), fault{"parts", 0})
		want(t, api.Config{Parts: no}, fault{"parts", 0})
		want(t, api.Config{Depth: 1, Sectors: 1, Parts: no}, fault{"parts", 0})
	}
	want(t, many(1<<12), fault{"parts", 0})
	want(t, api.Config{Frames: 64, Depth: 8, Sectors: 1024, Parts: make([]api.Part, 17)}, fault{"parts", 0})
}

func TestFramesAtTheirEdges(t *testing.T) {
	for frames := -3; frames <= 70; frames++ {
		f := none
		if frames < 1 || frames > 64 {
			f = fault{"frames", 0}
		}
		want(t, api.Config{Frames: frames, Depth: 1, Sectors: 2, Parts: []api.Part{part(frames, 0, 1)}}, f)
	}
	for _, n := range far() {
		want(t, with(plain(), func(c *api.Config) { c.Frames = n }), fault{"frames", 0})
	}
}

// Quotas of which each may be are told by frames, if they are too many.
func TestFramesOfManyQuotas(t *testing.T) {
	c := many(16)
	for i := range c.Parts {
		c.Parts[i].Quota = 4
	}
	c.Frames = 64
	want(t, c, none)
	c.Parts[7].Quota, c.Frames = 5, 65
	want(t, c, fault{"frames", 0})
	c.Frames = 64
	want(t, c, fault{"sum", 0})
}

func TestDepthAtItsEdges(t *testing.T) {
	for depth := -3; depth <= 20; depth++ {
		f := none
		if depth < 1 || depth > 8 {
			f = fault{"depth", 0}
		}
		want(t, with(plain(), func(c *api.Config) { c.Depth = depth }), f)
	}
	for _, n := range far() {
		want(t, with(plain(), func(c *api.Config) { c.Depth = n }), fault{"depth", 0})
	}
}

// One sector may be, but no part's pages end within it.
func TestSectorsAtTheirEdges(t *testing.T) {
	for _, x := range []struct {
		sectors int
		f       fault
	}{{-1, fault{"sectors", 0}}, {0, fault{"sectors", 0}}, {1, fault{"base", 0}}, {3, fault{"base", 0}}, {4, fault{"base", 1}}, {7, fault{"base", 1}},
		{8, none}, {9, none}, {1023, none}, {1024, none}, {1025, fault{"sectors", 0}}, {1026, fault{"sectors", 0}}, {2048, fault{"sectors", 0}}} {
		want(t, with(plain(), func(c *api.Config) { c.Sectors = x.sectors }), x.f)
	}
	for _, n := range far() {
		want(t, with(plain(), func(c *api.Config) { c.Sectors = n }), fault{"sectors", 0})
	}
}

// No number of a part's own row is looked at with another limit than its own.
func TestQuotaAtItsEdges(t *testing.T) {
	for k := range three().Parts {
		for _, quota := range append(far(), 0, 65, 66, 100, 128) {
			want(t, with(three(), func(c *api.Config) { c.Parts[k].Quota = quota }), fault{"quota", k})
		}
		for _, quota := range []int{4, 5, 16, 63, 64} {
			want(t, with(three(), func(c *api.Config) { c.Parts[k].Quota = quota }), fault{"sum", 0})
		}
	}
	one := api.Config{Frames: 64, Depth: 1, Sectors: 2, Parts: []api.Part{part(64, 0, 1)}}
	want(t, one, none)
	one.Parts[0].Quota = 65
	want(t, one, fault{"quota", 0})
	want(t, api.Config{Frames: 64, Depth: 1, Sectors: 4, Parts: []api.Part{part(63, 2, 1), part(1, 0, 1)}}, none)
}

func TestPagesAtTheirEdges(t *testing.T) {
	for k := range three().Parts {
		for _, pages := range append(far(), 0, 65, 66, 128, 512) {
			want(t, with(three(), func(c *api.Config) { c.Parts[k].Pages, c.Sectors = pages, 1024 }), fault{"pages", k})
		}
	}
	for pages := -2; pages <= 70; pages++ {
		f := none
		if pages < 1 || pages > 64 {
			f = fault{"pages", 0}
		}
		want(t, api.Config{Frames: 1, Depth: 1, Sectors: 1024, Parts: []api.Part{part(1, 0, pages)}}, f)
	}
}

func TestBaseAtItsEdges(t *testing.T) {
	for _, x := range []struct {
		sectors, base, pages int
		f                    fault
	}{
		{2, 0, 1, none}, {2, -1, 1, fault{"base", 0}}, {2, 1, 1, fault{"base", 0}}, {1, 0, 1, fault{"base", 0}},
		{3, 1, 1, none}, {3, 2, 1, fault{"base", 0}}, {3, 3, 1, fault{"base", 0}}, {3, 0, 2, fault{"base", 0}},
		{1024, 1022, 1, none}, {1024, 1023, 1, fault{"base", 0}}, {1024, 1024, 1, fault{"base", 0}},
		{1024, 896, 64, none}, {1024, 897, 64, fault{"base", 0}}, {1023, 896, 64, fault{"base", 0}},
		{128, 0, 64, none}, {127, 0, 64, fault{"base", 0}}, {128, 1, 64, fault{"base", 0}}, {128, -1, 64, fault{"base", 0}},
	} {
		want(t, api.Config{Frames: 1, Depth: 1, Sectors: x.sectors, Parts: []api.Part{part(1, x.base, x.pages)}}, x.f)
	}
	for k := range three().Parts {
		for _, base := range far() {
			want(t, with(three(), func(c *api.Config) { c.Parts[k].Base = base }), fault{"base", k})
		}
	}
}

func TestEachPartEndsWithTheLastSectorOrAhead(t *testing.T) {
	for _, parts := range ordered(three().Parts) {
		last := slices.IndexFunc(parts, func(p api.Part) bool { return p.Base == 30 })
		c := with(three(), func(c *api.Config) { c.Parts, c.Sectors = parts, 32 })
		want(t, c, none)
		c.Sectors = 31
		want(t, c, fault{"base", last})
		c.Sectors, c.Parts[last].Base = 40, 38
		want(t, c, none)
		c.Parts[last].Base = 39
		want(t, c, fault{"base", last})
	}
}

// Side by side parts may lie, in whatever row they stand.
func TestPartsSideBySide(t *testing.T) {
	for _, parts := range ordered([]api.Part{part(1, 0, 2), part(2, 4, 1), part(1, 6, 3), part(3, 12, 1)}) {
		c := api.Config{Frames: 7, Depth: 1, Sectors: 14, Parts: parts}
		want(t, c, none)
	}
}

// Of the two that have one sector in common the one that stands behind is told.
func TestPartsWithOneSectorInCommon(t *testing.T) {
	for _, first := range []api.Part{part(1, 0, 2), part(1, 1, 1), part(1, 0, 5), part(1, 3, 3)} {
		end := first.Base + 2*first.Pages
		for _, second := range []api.Part{part(2, end-1, 1), part(2, end-1, 7)} {
			apart := api.Part{Quota: 3, Base: 30, Pages: 2}
			for _, parts := range ordered([]api.Part{first, second, apart}) {
				k := max(slices.Index(parts, first), slices.Index(parts, second))
				c := api.Config{Frames: 6, Depth: 1, Sectors: 34, Parts: parts}
				want(t, c, fault{"extent", k})
				c.Parts[slices.Index(parts, second)].Base++
				want(t, c, none)
			}
		}
	}
}

func TestPartsInsideOneAnother(t *testing.T) {
	for _, x := range [][2]api.Part{
		{part(1, 0, 6), part(1, 4, 1)},
		{part(1, 0, 6), part(1, 0, 1)},
		{part(1, 0, 6), part(1, 10, 1)},
		{part(1, 2, 3), part(1, 2, 3)},
		{part(1, 0, 1), part(1, 0, 1)},
		{part(1, 3, 1), part(1, 2, 2)},
	} {
		for _, parts := range ordered(x[:]) {
			want(t, api.Config{Frames: 2, Depth: 1, Sectors: 12, Parts: parts}, fault{"extent", 1})
		}
	}
}

// Each part is held against all ahead of it, and not only against its
// neighbours.
func TestEachPartAgainstAllAhead(t *testing.T) {
	for k := range 16 {
		for j := range k {
			for _, by := range []int{-1, 0, 1} {
				c := with(many(16), func(c *api.Config) {
					for i := range c.Parts {
						c.Parts[i].Base = 1 + 10*i
					}
				})
				want(t, c, none)
				c.Parts[k].Base = c.Parts[j].Base + by
				want(t, c, fault{"extent", k})
			}
		}
	}
}

// All places of three small parts.
func TestAllSmallPlaces(t *testing.T) {
	const sectors = 7
	var places []api.Part
	for base := -1; base <= sectors; base++ {
		places = append(places, part(1, base, 1), part(1, base, 2))
	}
	met := map[fault]int{}
	for x := range len(places) * len(places) * len(places) {
		place := func(x int) api.Part { return places[x%len(places)] }
		c := api.Config{Frames: 3, Depth: 1, Sectors: sectors}
		c.Parts = []api.Part{place(x), place(x / len(places)), place(x / len(places) / len(places))}
		f := of(c)
		met[f]++
		want(t, c, f)
	}
	for _, f := range []fault{none, {"base", 0}, {"base", 1}, {"base", 2}, {"extent", 1}, {"extent", 2}} {
		if met[f] == 0 {
			t.Errorf("%v was not met", f)
		}
	}
}

func TestSumAtItsEdges(t *testing.T) {
	for _, c := range []api.Config{plain(), three(), many(1), many(2), many(16)} {
		for by := -2; by <= 2; by++ {
			f := fault{"sum", 0}
			if by == 0 {
				f = none
			} else if c.Frames+by < 1 {
				f = fault{"frames", 0}
			}
			want(t, with(c, func(c *api.Config) { c.Frames += by }), f)
		}
		for k := range c.Parts {
			want(t, with(c, func(c *api.Config) { c.Parts[k].Quota++ }), fault{"sum", 0})
		}
	}
	want(t, with(three(), func(c *api.Config) { c.Parts[0].Quota-- }), fault{"sum", 0})
	want(t, with(three(), func(c *api.Config) { c.Parts[0].Quota, c.Parts[1].Quota = 2, 2 }), none)
	all := many(16)
	for i := range all.Parts {
		all.Parts[i].Quota = 64
	}
	for _, frames := range []int{1, 16, 63, 64} {
		all.Frames = frames
		want(t, all, fault{"sum", 0})
	}
}

// spoil does wrong to a row of the table; of a part's own rows to the part k
// of three.
func spoil(c *api.Config, row, k int) {
	switch row {
	case 0:
		c.Parts = append(c.Parts, many(14).Parts...)
	case 1:
		c.Frames = 65
	case 2:
		c.Depth = 0
	case 3:
		c.Sectors = 1025
	case 4:
		c.Parts[k].Quota = 0
	case 5:
		c.Parts[k].Pages = -1
	case 6:
		c.Parts[k].Base = math.MaxInt
	case 7:
		c.Parts[k].Base = c.Parts[k-1].Base + 1
	case 8:
		c.Frames--
	}
}

// Several wrongs at once: the first of the table's rows is told.
func TestFirstRowIsTold(t *testing.T) {
	rows := []fault{{"parts", 0}, {"frames", 0}, {"depth", 0}, {"sectors", 0}, {"quota", 1}, {"pages", 1}, {"base", 1}, {"extent", 1}, {"sum", 0}}
	for set := range 1 << len(rows) {
		c, f := with(three(), func(*api.Config) {}), none
		for row := len(rows) - 1; row >= 0; row-- {
			if set>>row&1 == 1 {
				spoil(&c, row, 1)
				f = rows[row]
			}
		}
		want(t, c, f)
	}
}

// Of the parts' own rows the first part's is told, even where a part behind it
// has a row that stands ahead.
func TestFirstPartIsTold(t *testing.T) {
	name := map[int]string{4: "quota", 5: "pages", 6: "base", 7: "extent"}
	for row := range name {
		for later := range name {
			for k := 1; k < 3; k++ {
				c := with(three(), func(c *api.Config) { c.Parts = append(c.Parts, part(1, 10, 1)) })
				spoil(&c, later, k+1)
				if row == 7 && later == 7 {
					c.Parts[k+1].Base = c.Parts[0].Base
				}
				spoil(&c, row, k)
				want(t, c, fault{name[row], k})
			}
		}
	}
	for row := 4; row < 7; row++ {
		for later := range name {
			c := three()
			spoil(&c, later, 2)
			spoil(&c, row, 0)
			want(t, c, fault{name[row], 0})
		}
	}
}

// Where a part is in the way of one behind it, and wrong itself, it is told,
// and not that the other one meets it.
func TestPartThatIsWrongMeetsNobody(t *testing.T) {
	c := three()
	c.Parts[1] = c.Parts[0]
	c.Parts[0].Quota = 0
	want(t, c, fault{"quota", 0})
	c.Parts[0].Quota, c.Parts[0].Base = 3, -1
	c.Parts[1].Base = 0
	want(t, c, fault{"base", 0})
	c.Parts[1], c.Parts[2] = part(0, 20, 4), part(1, 20, 4)
	c.Parts[0].Base = 1
	want(t, c, fault{"quota", 1})
}

// All numbers far beyond, in all fields: no sum of them goes round.
func TestFarNumbers(t *testing.T) {
	all := append(far(), 0, 1, 2, 64, 1024)
	for _, base := range all {
		for _, pages := range all {
			for _, quota := range all {
				p := api.Part{Quota: quota, Base: base, Pages: pages}
				for _, sectors := range []int{2, 1024} {
					c := api.Config{Frames: 64, Depth: 8, Sectors: sectors, Parts: []api.Part{p, p}}
					want(t, c, of(c))
					c.Parts[0] = part(63, 0, 1)
					want(t, c, of(c))
				}
			}
		}
	}
	for _, n := range all {
		c := api.Config{Frames: n, Depth: n, Sectors: n, Parts: []api.Part{part(n, n, n)}}
		want(t, c, of(c))
		c.Parts = nil
		want(t, c, fault{"parts", 0})
	}
}

// Two quotas that together come round to Frames are still no quotas.
func TestQuotasThatGoRound(t *testing.T) {
	c := plain()
	c.Parts[0].Quota, c.Parts[1].Quota = math.MaxInt, math.MinInt+4
	want(t, c, fault{"quota", 0})
	c.Parts[0].Quota, c.Parts[1].Quota = 4, -1
	want(t, c, fault{"quota", 1})
	c.Parts[0].Quota, c.Parts[1].Quota = 3, 0
	want(t, c, fault{"quota", 1})
}

func TestCheckByChance(t *testing.T) {
	rnd := rand.New(rand.NewSource(51))
	met := map[string]int{}
	for range 30000 {
		c := draw(rnd)
		f := of(c)
		met[f.where]++
		want(t, c, f)
	}
	for _, where := range []string{"", "parts", "frames", "depth", "sectors", "quota", "pages", "base", "extent", "sum"} {
		if met[where] < 50 {
			t.Errorf("%q was met %d times", where, met[where])
		}
	}
}

// P5.2

// alike holds two configurations against each other field by field.
func alike(a, b api.Config) bool {
	return a.Frames == b.Frames && a.Depth == b.Depth && a.Sectors == b.Sectors && slices.Equal(a.Parts, b.Parts)
}

// some are configurations that may be and such that may not.
func some() []api.Config {
	l := []api.Config{{}, {Parts: []api.Part{}}, {Frames: -1, Depth: math.MaxInt, Sectors: math.MinInt}, plain(), three(), many(1), many(16), many(40),
		{Frames: 1, Depth: 2, Sectors: 3, Parts: []api.Part{{}, {}}}, {Parts: []api.Part{part(math.MinInt, math.MaxInt, -1)}}}
	rnd := rand.New(rand.NewSource(52))
	for range 100 {
		l = append(l, draw(rnd), drawMay(rnd))
	}
	return l
}

// roomy is c, its list with spare room, in which other parts stand.
func roomy(c api.Config, room int) api.Config {
	whole := append(slices.Clone(c.Parts), slices.Repeat([]api.Part{part(7, 8, 9)}, room)...)
	c.Parts = whole[:len(c.Parts):len(whole)]
	return c
}

// turn makes all parts of a list others, and those of all of its room.
func turn(l []api.Part) {
	l = l[:cap(l)]
	for i := range l {
		l[i].Quota, l[i].Base, l[i].Pages = ^l[i].Quota, ^l[i].Base, ^l[i].Pages
	}
}

func TestCloneIsTheSame(t *testing.T) {
	for _, c := range some() {
		got := config.Clone(c)
		if !alike(got, c) || !config.Same(got, c) || check(got) != check(c) {
			t.Errorf("Clone(%v): %v", c, got)
		}
		if again := config.Clone(got); !alike(again, c) {
			t.Errorf("a clone of a clone of %v: %v", c, again)
		}
	}
}

func TestCloneHasAListOfItsOwn(t *testing.T) {
	for _, c := range some() {
		for _, room := range []int{0, 1, 9} {
			own := roomy(c, room)
			whole := slices.Clone(own.Parts[:cap(own.Parts)])
			first, second := config.Clone(own), config.Clone(own)
			turn(first.Parts)
			_ = append(first.Parts, part(1, 2, 3))
			if !slices.Equal(own.Parts[:cap(own.Parts)], whole) || !alike(second, c) {
				t.Fatalf("what was done to a clone of %v came to it, or to another one: %v, %v", c, own.Parts[:cap(own.Parts)], second)
			}
			turn(own.Parts)
			if !alike(second, c) {
				t.Fatalf("what was done to %v came to a clone: %v", c, second)
			}
		}
	}
}

// Each field that differs is told, whichever of the two is handed in first.
func TestSameTellsEachField(t *testing.T) {
	for _, c := range []api.Config{plain(), three(), many(1), many(16), many(17), {Parts: make([]api.Part, 3)}} {
		fields := func(c *api.Config) []*int {
			l := []*int{&c.Frames, &c.Depth, &c.Sectors}
			for k := range c.Parts {
				p := &c.Parts[k]
				l = append(l, &p.Quota, &p.Base, &p.Pages)
			}
			return l
		}
		for i := range fields(&c) {
			for _, by := range []int{1, -1, 64, 1 << 8, 1 << 32, math.MinInt} {
				other := with(c, func(c *api.Config) { *fields(c)[i] += by })
				if config.Same(c, other) || config.Same(other, c) {
					t.Errorf("the same: %v, %v", c, other)
				}
				*fields(&other)[i] -= by
				if !config.Same(c, other) || !config.Same(other, c) {
					t.Errorf("not the same: %v, %v", c, other)
				}
			}
		}
	}
}

func TestSameTellsHowManyParts(t *testing.T) {
	for _, c := range some() {
		more := with(c, func(c *api.Config) { c.Parts = append(c.Parts, api.Part{}) })
		ahead := with(c, func(c *api.Config) { c.Parts = append([]api.Part{{}}, c.Parts...) })
		for _, other := range []api.Config{more, ahead} {
			if config.Same(c, other) || config.Same(other, c) {
				t.Errorf("the same: %v, %v", c, other)
			}
		}
	}
}

func TestSameTellsTheRowOfParts(t *testing.T) {
	rows := ordered(three().Parts)
	for i, a := range rows {
		for j, b := range rows {
			one := with(three(), func(c *api.Config) { c.Parts = a })
			other := with(three(), func(c *api.Config) { c.Parts = b })
			if got := config.Same(one, other); got != (i == j) {
				t.Errorf("Same(%v, %v): %v", one, other, got)
			}
		}
	}
}

func TestSameOfAll(t *testing.T) {
	l := some()
	for _, a := range l {
		for _, b := range l {
			if got := config.Same(a, b); got != alike(a, b) {
				t.Errorf("Same(%v, %v): %v", a, b, got)
			}
		}
		if !config.Same(a, a) || !config.Same(a, roomy(a, 3)) || !config.Same(roomy(a, 5), a) {
			t.Errorf("%v is not the same as itself", a)
		}
	}
}

func TestFreeSectors(t *testing.T) {
	for _, x := range []struct {
		c    api.Config
		want int
	}{
		{plain(), 0},
		{with(plain(), func(c *api.Config) { c.Sectors = 9 }), 1},
		{with(plain(), func(c *api.Config) { c.Sectors = 1024 }), 1016},
		{with(plain(), func(c *api.Config) { c.Sectors, c.Parts[1].Base = 9, 5 }), 1},
		{with(plain(), func(c *api.Config) { c.Sectors, c.Parts[0].Base, c.Parts[1].Base = 9, 1, 5 }), 1},
		{with(plain(), func(c *api.Config) { c.Sectors, c.Parts[0].Base, c.Parts[1].Base = 14, 9, 1 }), 6},
		{three(), 24},
		{many(1), 1022},
		{many(16), 992},
		{api.Config{Frames: 1, Depth: 1, Sectors: 2, Parts: []api.Part{part(1, 0, 1)}}, 0},
		{api.Config{Frames: 1, Depth: 1, Sectors: 3, Parts: []api.Part{part(1, 1, 1)}}, 1},
		{api.Config{Frames: 9, Depth: 1, Sectors: 128, Parts: []api.Part{part(9, 0, 64)}}, 0},
		{api.Config{Frames: 9, Depth: 1, Sectors: 1024, Parts: []api.Part{part(9, 896, 64)}}, 896},
	} {
		want(t, x.c, none)
		if got := config.Free(x.c); got != x.want {
			t.Errorf("Free(%v): %d, want %d", x.c, got, x.want)
		}
	}
}

func TestFreeOfADeviceThatIsFull(t *testing.T) {
	c := api.Config{Frames: 8, Depth: 8, Sectors: 1024}
	for i := range 8 {
		c.Parts = append(c.Parts, api.Part{Quota: 1, Base: 1024 - 128*(i+1), Pages: 64})
		want(t, with(c, func(c *api.Config) { c.Frames = i + 1 }), none)
		if got := config.Free(c); got != 1024-128*(i+1) {
			t.Errorf("Free of %d parts: %d", i+1, got)
		}
	}
	c.Parts, c.Frames = append(c.Parts, part(1, 0, 1)), 9
	want(t, c, fault{"extent", 8})
}

// What is free is counted sector by sector.
func TestFreeByChance(t *testing.T) {
	rnd := rand.New(rand.NewSource(53))
	for range 2000 {
		c := drawMay(rnd)
		has, free := owners(c), 0
		for sector := range c.Sectors {
			if has[sector] == 0 {
				free++
			}
		}
		if got := config.Free(c); got != free {
			t.Errorf("Free(%v): %d, want %d", c, got, free)
		}
	}
}

// P5.3

// once says whether each sector that is a part's is one of the device's, and
// of no other part.
func once(t *testing.T, c api.Config) {
	t.Helper()
	for sector, n := range owners(c) {
		if n != 1 || sector < 0 || sector >= c.Sectors {
			t.Fatalf("%v may be, and the sector %d is %d parts'", c, sector, n)
		}
	}
}

func TestNoSectorIsTwoParts(t *testing.T) {
	rnd := rand.New(rand.NewSource(54))
	may := 0
	for range 30000 {
		c := draw(rnd)
		if config.May(c) {
			may++
			once(t, c)
		}
	}
	if may < 1000 {
		t.Errorf("only %d of them may be", may)
	}
	for range 1000 {
		c := drawMay(rnd)
		once(t, c)
		p := &c.Parts[rnd.Intn(len(c.Parts))]
		p.Base, p.Pages = p.Base+rnd.Intn(5)-2, p.Pages+rnd.Intn(3)-1
		if config.May(c) {
			once(t, c)
		}
	}
}

// All pairs of parts of a small device: those that have a sector in common
// may not be, and all others may.
func TestAllPairsOfParts(t *testing.T) {
	const sectors = 12
	var places []api.Part
	for base := range sectors {
		for pages := 1; base+2*pages <= sectors; pages++ {
			places = append(places, api.Part{Quota: 1, Base: base, Pages: pages})
		}
	}
	for _, a := range places {
		for _, b := range places {
			c := api.Config{Frames: 2, Depth: 1, Sectors: sectors, Parts: []api.Part{a, b}}
			common := false
			for _, n := range owners(c) {
				common = common || n > 1
			}
			if config.May(c) == common {
				t.Errorf("%v: may it be? %v", c, !common)
			}
		}
	}
}

// R2 and R4

// calls are all calls that are handed a configuration.
func calls(c api.Config) {
	config.Check(c)
	config.May(c)
	config.Clone(c)
	config.Same(c, plain())
	config.Same(plain(), c)
	config.Same(c, c)
	config.Free(c)
}

func TestWhatIsHandedInIsNotChanged(t *testing.T) {
	for _, c := range some() {
		for _, room := range []int{0, 1, 20} {
			own := roomy(c, room)
			whole := slices.Clone(own.Parts[:cap(own.Parts)])
			calls(own)
			if !alike(own, c) || !slices.Equal(own.Parts[:cap(own.Parts)], whole) {
				t.Fatalf("%v became %v", c, own)
			}
		}
	}
}

// What is told hangs on what is handed in now, and not on its spare room or
// on what it was ahead.
func TestWhatIsHandedInIsNotKept(t *testing.T) {
	own := roomy(plain(), 2)
	want(t, own, none)
	own.Parts[1].Base = 3
	want(t, own, fault{"extent", 1})
	if config.Same(own, plain()) {
		t.Error("the same as it was ahead")
	}
	own.Parts[1].Base = 4
	want(t, own, none)
	if !config.Same(own, plain()) || config.Free(own) != 0 {
		t.Error("not as it was ahead")
	}
	for _, c := range some() {
		if got := check(roomy(c, 17)); got != check(c) {
			t.Errorf("Check(%v) hangs on its spare room: %v", c, got)
		}
	}
}

func TestNilAndEmptyAreOne(t *testing.T) {
	for _, numbers := range []api.Config{{}, {Frames: 1, Depth: 1, Sectors: 1}, {Frames: -1, Depth: 9, Sectors: 1025}} {
		lists := [][]api.Part{nil, {}, make([]api.Part, 0, 3), plain().Parts[:0]}
		for _, a := range lists {
			for _, b := range lists {
				one, other := numbers, numbers
				one.Parts, other.Parts = a, b
				if !config.Same(one, other) || check(one) != check(other) || config.Free(one) != config.Free(other) {
					t.Errorf("%#v and %#v are two", one, other)
				}
				if got := config.Clone(one); !config.Same(got, other) || len(got.Parts) != 0 {
					t.Errorf("Clone(%#v): %#v", one, got)
				}
			}
		}
	}
}

// FuzzCheck holds Check against the chapter's table, and what follows from it.
func FuzzCheck(f *testing.F) {
	f.Add(3, 2, 8, 1, 0, 2, 2, 4, 2, 0)
	f.Add(6, 8, 40, 3, 20, 4, 3, 1, 3, 0)
	f.Add(18, 1, 1024, 1, 0, 1, 1, 2, 1, 15)
	f.Add(2, 1, 1024, 1, math.MaxInt, 1, 1, math.MinInt, 64, 0)
	f.Fuzz(func(t *testing.T, frames, depth, sectors, quota, base, pages, quota2, base2, pages2, more int) {
		c := api.Config{Frames: frames, Depth: depth, Sectors: sectors, Parts: []api.Part{part(quota, base, pages), part(quota2, base2, pages2)}}
		if more > 0 && more < 20 {
			c.Parts = append(c.Parts, many(more).Parts...)
		}
		got := check(c)
		if got != of(c) || config.May(c) != (got == none) {
			t.Fatal(c, got)
		}
		if got == none {
			once(t, c)
			if config.Free(c) != c.Sectors-len(owners(c)) {
				t.Fatal(c, config.Free(c))
			}
		}
		if own := config.Clone(c); !alike(own, c) || !config.Same(own, c) {
			t.Fatal(c, own)
		}
	})
}
