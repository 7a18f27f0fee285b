package device_test

import (
	"encoding/binary"
	"hash/crc32"
	"math"
	"math/rand"
	"slices"
	"strconv"
	"strings"
	"testing"

	"allotment/api"
	"allotment/bits"
	"allotment/device"
)

// noughts are n bytes 0.
func noughts(n int) string { return strings.Repeat("\x00", n) }

// row is n bytes, each one more than the one ahead of it.
func row(n int) string {
	b := make([]byte, n)
	for i := range b {
		b[i] = byte('0' + i)
	}
	return string(b)
}

// full is a sector of one letter.
func full(letter string) string { return strings.Repeat(letter, 16) }

// drawn is n bytes by chance.
func drawn(rnd *rand.Rand, n int) string {
	b := make([]byte, n)
	rnd.Read(b)
	return string(b)
}

// bitsOf are the bits of a text.
func bitsOf(text string) []bool {
	l := []bool{}
	for _, r := range text {
		l = append(l, r == '1')
	}
	return l
}

// keeps are texts of all rows of up to n bits.
func keeps(n int) []string {
	l := []string{""}
	for first := 0; n > 0; n-- {
		end := len(l)
		for ; first < end; first++ {
			l = append(l, l[first]+"0", l[first]+"1")
		}
	}
	return l
}

// sealed is a text with its check behind it, told by the library.
func sealed(s string) string {
	return string(binary.LittleEndian.AppendUint32([]byte(s), crc32.ChecksumIEEE([]byte(s))))
}

// opened is what must be told of a cell.
func opened(c string) (string, api.Errno) {
	if sealed(c[:16]) != c {
		return "", api.ErrIO
	}
	return c[:16], api.OK
}

// far are numbers that are no sector's and no place of any device's, such too
// as are one if some bits are not looked at.
func far() []int {
	return []int{-1, -2, -20, -1024, -1 << 31, -1 << 32, -1<<32 + 1, -1 << 62, math.MinInt, math.MinInt + 1, math.MinInt + 3,
		1024, 1025, 1 << 16, 1 << 31, 1 << 32, 1<<32 + 1, 1<<32 + 3, 1<<56 + 2, 1 << 62, 1<<62 + 1, math.MaxInt - 3, math.MaxInt - 1, math.MaxInt}
}

// lengths are those of bytes about a sector's and a cell's, and such as are
// one of them if some bits are not looked at.
func lengths() []int {
	var l []int
	for n := range 70 {
		l = append(l, n)
	}
	return append(l, 128, 255, 256, 256+16, 256+20, 1<<16+16)
}

// roomy is a text in a list with spare room, which holds the byte r.
func roomy(s string, room int) []byte {
	whole := []byte(s + strings.Repeat("r", room))
	return whole[:len(s):len(whole)]
}

// fill writes into a list and all of its room.
func fill(b []byte, x byte) {
	b = b[:cap(b)]
	for i := range b {
		b[i] = x
	}
}

// model is what a device should be: cells as texts, of each sector the one
// that lasts, and a later one or the empty text.
type model struct {
	lasting, later []string
	head           string
}

// modelOf is a new device's model.
func modelOf(sectors int) *model {
	return &model{lasting: slices.Repeat([]string{sealed(noughts(16))}, sectors), later: make([]string, sectors)}
}

// isThere says whether a number is a sector's.
func (m *model) isThere(at int) bool {
	for k := range m.lasting {
		if k == at {
			return true
		}
	}
	return false
}

func (m *model) read(at int) (string, api.Errno) {
	if m.isThere(at) && m.later[at] != "" {
		return opened(m.later[at])
	}
	return m.stays(at)
}

// stays is what Lasting must tell.
func (m *model) stays(at int) (string, api.Errno) {
	if !m.isThere(at) {
		return "", api.ErrRange
	}
	return opened(m.lasting[at])
}

func (m *model) write(at int, s string) api.Errno {
	switch {
	case !m.isThere(at):
		return api.ErrRange
	case len(s) != 16:
		return api.ErrForm
	}
	m.later[at] = sealed(s)
	return api.OK
}

// waits are the sectors that have a later cell.
func (m *model) waits(from, to int) []int {
	var l []int
	for at, c := range m.later {
		if at >= from && at < to && c != "" {
			l = append(l, at)
		}
	}
	return l
}

func (m *model) barrier(from, to int) {
	for _, at := range m.waits(from, to) {
		m.lasting[at], m.later[at] = m.later[at], ""
	}
}

// crash tells what is left of the bits.
func (m *model) crash(from, to int, keep string) string {
	for _, at := range m.waits(from, to) {
		if keep != "" && keep[0] == '1' {
			m.lasting[at] = m.later[at]
		}
		m.later[at] = ""
		if keep != "" {
			keep = keep[1:]
		}
	}
	return keep
}

func (m *model) turn(at, place int, by byte) api.Errno {
	if !m.isThere(at) || place < 0 || place > 19 {
		return api.ErrRange
	}
	c := m.lasting[at]
	m.lasting[at] = c[:place] + string([]byte{c[place] ^ by}) + c[place+1:]
	return api.OK
}

// pair is a device beside its model. Each call is made of both, and what is
// told is held against each other.
type pair struct {
	t *testing.T
	d *device.Device
	m *model
}

// made is a new device with its model.
func made(t *testing.T, sectors int) pair {
	t.Helper()
	d, e := device.New(sectors)
	if d == nil || e != api.OK {
		t.Fatalf("New(%d): %v, %d", sectors, d, e)
	}
	return pair{t, d, modelOf(sectors)}
}

func (p pair) write(at int, s string) {
	p.t.Helper()
	want := p.m.write(at, s)
	if e := p.d.Write(at, []byte(s)); e != want {
		p.t.Errorf("Write(%d, %q): %d, want %d", at, s, e, want)
	}
}

func (p pair) barrier(from, to int) {
	p.m.barrier(from, to)
	p.d.Barrier(from, to)
}

func (p pair) crash(from, to int, keep string) {
	p.t.Helper()
	left := p.m.crash(from, to, keep)
	s := bits.New(bitsOf(keep)...)
	p.d.Crash(from, to, s)
	if got := bits.Text(s.Left()); got != left || s.At() != len(keep)-len(left) {
		p.t.Errorf("Crash(%d, %d, %q): %d were told, %q is left; want %d, %q", from, to, keep, s.At(), got, len(keep)-len(left), left)
	}
}

func (p pair) turn(at, place int, by byte) {
	p.t.Helper()
	want := p.m.turn(at, place, by)
	if e := p.d.Turn(at, place, by); e != want {
		p.t.Errorf("Turn(%d, %d, %d): %d, want %d", at, place, by, e, want)
	}
}

func (p pair) setHead(s string) {
	p.m.head = s
	p.d.SetHead([]byte(s))
}

// holdSector holds one sector's bytes against what they should be.
func (p pair) holdSector(at int) {
	p.t.Helper()
	want, errno := p.m.read(at)
	if b, e := p.d.Read(at); string(b) != want || e != errno {
		p.t.Errorf("Read(%d): %q, %d; want %q, %d", at, b, e, want, errno)
	}
	want, errno = p.m.stays(at)
	if b, e := p.d.Lasting(at); string(b) != want || e != errno {
		p.t.Errorf("Lasting(%d): %q, %d; want %q, %d", at, b, e, want, errno)
	}
}

// holdLater holds Later against what it should tell.
func (p pair) holdLater(from, to int) {
	p.t.Helper()
	if l, want := p.d.Later(from, to), p.m.waits(from, to); !slices.Equal(l, want) {
		p.t.Errorf("Later(%d, %d): %v, want %v", from, to, l, want)
	}
}

// hold holds all that a device tells against what it should tell.
func (p pair) hold() {
	p.t.Helper()
	n := len(p.m.lasting)
	if got := p.d.Len(); got != n {
		p.t.Errorf("Len: %d, want %d", got, n)
	}
	for at := -1; at <= n; at++ {
		p.holdSector(at)
	}
	p.holdLater(0, n)
	if h := p.d.Head(); string(h) != p.m.head {
		p.t.Errorf("Head: %q, want %q", h, p.m.head)
	}
}

// lived is a device of 6 sectors of which all kinds are there: one that was
// never written to, one that lasts, one with a later cell alone, one with
// both, one that is turned, and one that is turned with a later one beside.
func lived(t *testing.T) pair {
	t.Helper()
	p := made(t, 6)
	p.write(1, full("b"))
	p.write(3, full("d"))
	p.write(5, full("f"))
	p.barrier(0, 6)
	p.write(2, full("C"))
	p.write(3, full("D"))
	p.turn(4, 7, 1)
	p.turn(5, 19, 128)
	p.write(5, full("F"))
	p.setHead("head")
	p.hold()
	return p
}

// P9.1

func TestNewOfAllLengths(t *testing.T) {
	for n := 1; n <= 1024; n++ {
		d, e := device.New(n)
		if d == nil || e != api.OK {
			t.Fatalf("New(%d): %v, %d", n, d, e)
		}
		if d.Len() != n {
			t.Errorf("New(%d): %d sectors", n, d.Len())
		}
	}
}

func TestNewOfWrongLengths(t *testing.T) {
	wrong := slices.DeleteFunc(far(), func(n int) bool { return n == 1024 })
	for n := range 2000 {
		wrong = append(wrong, -n, 1025+n)
	}
	for _, n := range wrong {
		if d, e := device.New(n); d != nil || e != api.ErrArg {
			t.Errorf("New(%d): %v, %d", n, d, e)
		}
	}
}

func TestNeverWrittenTo(t *testing.T) {
	for _, n := range []int{1, 2, 3, 64, 1023, 1024} {
		p := made(t, n)
		for at := range n {
			for name, ask := range map[string]func(int) ([]byte, api.Errno){"Read": p.d.Read, "Lasting": p.d.Lasting} {
				if b, e := ask(at); string(b) != noughts(16) || e != api.OK {
					t.Errorf("%s(%d) of %d: %q, %d", name, at, n, b, e)
				}
			}
		}
		if l := p.d.Later(0, n); len(l) != 0 {
			t.Errorf("Later of %d: %v", n, l)
		}
		if h := p.d.Head(); len(h) != 0 {
			t.Errorf("Head of %d: %q", n, h)
		}
		p.hold()
	}
}

func TestWriteIsReadAndDoesNotLast(t *testing.T) {
	p := made(t, 5)
	for _, at := range []int{0, 4, 2} {
		if e := p.d.Write(at, []byte("0123456789abcdef")); e != api.OK {
			t.Fatal(at, e)
		}
		if b, e := p.d.Read(at); string(b) != "0123456789abcdef" || e != api.OK {
			t.Errorf("Read(%d): %q, %d", at, b, e)
		}
		if b, e := p.d.Lasting(at); string(b) != noughts(16) || e != api.OK {
			t.Errorf("Lasting(%d): %q, %d", at, b, e)
		}
		p.m.write(at, "0123456789abcdef")
		p.hold()
	}
}

// Each sector of the greatest device has bytes of its own.
func TestWriteOfAllSectors(t *testing.T) {
	p := made(t, 1024)
	for at := range 1024 {
		p.write(at, row(12)+string(binary.BigEndian.AppendUint32(nil, uint32(at))))
	}
	p.hold()
	p.barrier(0, 512)
	p.hold()
}

// Noughts that are written are a later cell as all others are.
func TestWriteOfNoughts(t *testing.T) {
	p := made(t, 3)
	p.write(1, noughts(16))
	p.hold()
	if l := p.d.Later(0, 3); !slices.Equal(l, []int{1}) {
		t.Errorf("Later: %v", l)
	}
	p.write(2, full("x"))
	p.barrier(0, 3)
	p.write(2, noughts(16))
	p.hold()
	p.barrier(0, 3)
	p.hold()
}

// Bytes that last already are a later cell too, if they are written again.
func TestWriteOfTheSameBytes(t *testing.T) {
	p := made(t, 2)
	p.write(1, full("x"))
	p.barrier(0, 2)
	p.write(1, full("x"))
	p.hold()
	if l := p.d.Later(0, 2); !slices.Equal(l, []int{1}) {
		t.Errorf("Later: %v", l)
	}
}

func TestWriteTwice(t *testing.T) {
	for _, way := range []string{"ww", "wwb", "wbw", "wbwb", "bww", "bwbw", "wbbw", "wwbww", "wwc", "wbwc", "wcw", "wwkw", "wbwk"} {
		for at := range 3 {
			p := made(t, 3)
			for i, r := range way {
				switch r {
				case 'w':
					p.write(at, full(string(rune('a'+i))))
				case 'b':
					p.barrier(0, 3)
				case 'c':
					p.crash(0, 3, "0")
				case 'k':
					p.crash(0, 3, "1")
				}
				p.hold()
			}
		}
	}
	p := made(t, 3)
	p.write(1, full("a"))
	p.write(1, full("b"))
	p.barrier(0, 3)
	p.write(1, full("c"))
	p.write(1, full("d"))
	if b, e := p.d.Read(1); string(b) != full("d") || e != api.OK {
		t.Errorf("%q, %d", b, e)
	}
	if b, e := p.d.Lasting(1); string(b) != full("b") || e != api.OK {
		t.Errorf("%q, %d", b, e)
	}
}

// What is no sector's: nothing is told beside the error, and nothing changed.
func TestNoSuchSector(t *testing.T) {
	for _, n := range []int{1, 2, 6, 1023, 1024} {
		p := made(t, n)
		p.write(n-1, full("l"))
		for _, at := range append(far(), n, n+1) {
			for name, ask := range map[string]func(int) ([]byte, api.Errno){"Read": p.d.Read, "Lasting": p.d.Lasting} {
				if b, e := ask(at); len(b) != 0 || e != api.ErrRange {
					t.Errorf("%s(%d) of %d: %q, %d", name, at, n, b, e)
				}
			}
			if e := p.d.Write(at, []byte(full("x"))); e != api.ErrRange {
				t.Errorf("Write(%d) of %d: %d", at, n, e)
			}
			if e := p.d.Turn(at, 0, 1); e != api.ErrRange {
				t.Errorf("Turn(%d) of %d: %d", at, n, e)
			}
		}
		for _, at := range append(far(), n, n+1) {
			p.holdSector(at)
		}
		p.hold()
	}
}

func TestWriteOfOtherLengths(t *testing.T) {
	for _, n := range lengths() {
		if n == 16 {
			continue
		}
		p := lived(t)
		for at := range 6 {
			for _, s := range []string{noughts(n), row(n), strings.Repeat("\xff", n)} {
				if e := p.d.Write(at, []byte(s)); e != api.ErrForm {
					t.Errorf("Write(%d) of %d bytes: %d", at, n, e)
				}
			}
		}
		p.hold()
	}
	p := lived(t)
	if e := p.d.Write(0, nil); e != api.ErrForm {
		t.Errorf("Write of nil: %d", e)
	}
	if e := p.d.Write(0, []byte(sealed(row(16)))); e != api.ErrForm {
		t.Errorf("Write of a cell: %d", e)
	}
	p.hold()
}

// R2: that there is no such sector comes ahead of the bytes' form.
func TestWriteOfBothWrong(t *testing.T) {
	p := lived(t)
	for _, at := range append(far(), 6, 7) {
		for _, n := range lengths() {
			if e := p.d.Write(at, []byte(row(n))); e != api.ErrRange {
				t.Errorf("Write(%d) of %d bytes: %d", at, n, e)
			}
		}
		if e := p.d.Write(at, nil); e != api.ErrRange {
			t.Errorf("Write(%d) of nil: %d", at, e)
		}
	}
	p.hold()
}

func TestLenStays(t *testing.T) {
	p := lived(t)
	for _, at := range append(far(), 0, 5, 6) {
		p.d.Read(at)
		p.d.Lasting(at)
		p.write(at, full("x"))
		p.turn(at, 3, 1)
		p.barrier(at, at+1)
		p.crash(at-1, at, "1")
		p.d.Later(at, at)
		if p.d.Len() != 6 {
			t.Fatalf("Len: %d", p.d.Len())
		}
	}
	p.hold()
}

// P9.2

func TestTheExample(t *testing.T) {
	p := made(t, 8)
	p.write(3, full("x"))
	p.crash(0, 8, "0")
	if b, e := p.d.Read(3); string(b) != noughts(16) || e != api.OK {
		t.Errorf("with a bit 0: %q, %d", b, e)
	}
	p.write(3, full("x"))
	p.crash(0, 8, "1")
	for name, ask := range map[string]func(int) ([]byte, api.Errno){"Read": p.d.Read, "Lasting": p.d.Lasting} {
		if b, e := ask(3); string(b) != full("x") || e != api.OK {
			t.Errorf("with a bit 1: %s: %q, %d", name, b, e)
		}
	}
	p.write(3, full("y"))
	p.crash(0, 8, "") // behind the last bit each is false
	if b, e := p.d.Read(3); string(b) != full("x") || e != api.OK {
		t.Errorf("with no bit: %q, %d", b, e)
	}
	p.hold()
}

func TestBarrierAndCrashOfLivedSectors(t *testing.T) {
	for from := -2; from < 9; from++ {
		for to := -2; to < 9; to++ {
			p := lived(t)
			p.holdLater(from, to)
			p.barrier(from, to)
			p.hold()
			for _, keep := range []string{"", "0", "1", "01", "10", "010", "101", "11111", "00100"} {
				p := lived(t)
				p.crash(from, to, keep)
				p.hold()
			}
		}
	}
}

// All choices of sectors that have a later cell, all of from and to, and all
// bits, one more than there are sectors.
func TestBarrierAndCrashOfAllChoices(t *testing.T) {
	const n = 3
	chosen := func(which int) pair {
		p := made(t, n)
		for at := range n {
			p.write(at, full(string(rune('a'+at))))
		}
		p.barrier(0, n)
		for at := range n {
			if which>>at&1 == 1 {
				p.write(at, full(string(rune('A'+at))))
			}
		}
		return p
	}
	for which := range 1 << n {
		for from := -1; from <= n+1; from++ {
			for to := -1; to <= n+1; to++ {
				p := chosen(which)
				p.holdLater(from, to)
				p.barrier(from, to)
				p.hold()
				for _, keep := range keeps(n + 1) {
					p := chosen(which)
					p.crash(from, to, keep)
					p.hold()
				}
			}
		}
	}
}

// Numbers that are no sector's are none: neither a panic nor a long way.
func TestFarRanges(t *testing.T) {
	ends := append(far(), 0, 1, 3, 5, 6, 7)
	for _, from := range ends {
		for _, to := range ends {
			p := lived(t)
			p.holdLater(from, to)
			p.crash(from, to, "1011")
			p.hold()
			p = lived(t)
			p.barrier(from, to)
			p.hold()
		}
	}
}

func TestAllOfTheGreatestDevice(t *testing.T) {
	for _, ends := range [][2]int{{0, 1024}, {-1, 1025}, {math.MinInt, math.MaxInt}, {0, math.MaxInt}, {math.MinInt, 1024}} {
		p := made(t, 1024)
		for at := range 1024 {
			p.write(at, full(string([]byte{byte(at)})))
		}
		p.crash(ends[0], ends[1], strings.Repeat("10011", 300))
		p.hold()
		for at := range 1024 {
			p.write(at, full(string([]byte{byte(at / 2)})))
		}
		p.barrier(ends[0], ends[1])
		p.hold()
	}
}

// The first and the last sector are within from and to, the one at to is not.
func TestEndsOfTheGreatestDevice(t *testing.T) {
	for _, ends := range [][2]int{{0, 1}, {1, 1024}, {0, 1023}, {1023, 1024}, {1024, 1025}, {-1, 0}, {1023, math.MaxInt}, {math.MinInt, 1}, {math.MinInt, 0}, {1024, math.MaxInt}} {
		for _, crash := range []bool{false, true} {
			p := made(t, 1024)
			for _, at := range []int{0, 1, 1022, 1023} {
				p.write(at, full("x"))
			}
			p.holdLater(ends[0], ends[1])
			if crash {
				p.crash(ends[0], ends[1], "1111")
			} else {
				p.barrier(ends[0], ends[1])
			}
			p.hold()
		}
	}
}

// Bits are taken by sectors that have a later cell, one each, and by no other.
func TestCrashTakesOneBitOfEachLaterCell(t *testing.T) {
	p := made(t, 10)
	for _, at := range []int{8, 1, 4, 6} {
		p.write(at, full("x"))
	}
	s := bits.New(bitsOf("0101100")...)
	s.Next() // some were told ahead
	p.d.Crash(0, 7, s)
	if s.At() != 4 || bits.Text(s.Left()) != "100" {
		t.Errorf("%d were told, %v are left", s.At(), s.Left())
	}
	p.d.Crash(0, 7, s) // none is later there any more
	p.d.Crash(7, 3, s)
	p.d.Crash(0, 0, s)
	p.d.Crash(9, 99, s)
	p.d.Crash(math.MaxInt, math.MinInt, s)
	if s.At() != 4 || bits.Text(s.Left()) != "100" {
		t.Errorf("with none later: %d were told, %v are left", s.At(), s.Left())
	}
	p.d.Crash(7, 9, s)
	if s.At() != 5 || bits.Text(s.Left()) != "00" {
		t.Errorf("of one: %d were told, %v are left", s.At(), s.Left())
	}
	for at, want := range map[int]string{0: noughts(16), 1: full("x"), 4: noughts(16), 6: full("x"), 8: full("x"), 9: noughts(16)} {
		if b, e := p.d.Lasting(at); string(b) != want || e != api.OK {
			t.Errorf("Lasting(%d): %q, %d; want %q", at, b, e, want)
		}
	}
	if l := p.d.Later(0, 10); len(l) != 0 {
		t.Errorf("Later: %v", l)
	}
}

// Of a stream that more bits are put behind, those come in their turn.
func TestCrashWithAStreamThatGrows(t *testing.T) {
	p := made(t, 3)
	s := bits.New()
	for i, keep := range "0110" {
		p.write(1, full(string(rune('a'+i))))
		s.Add(keep == '1')
		p.d.Crash(0, 3, s)
		p.m.crash(0, 3, string(keep))
		p.hold()
		if s.At() != i+1 || len(s.Left()) != 0 {
			t.Errorf("%d were told, %v are left", s.At(), s.Left())
		}
	}
}

// A sector that was lost may be written to again, and then kept.
func TestWriteBehindACrash(t *testing.T) {
	p := made(t, 4)
	for _, keep := range []string{"0", "1", "00", "01", "10", "11"} {
		p.write(0, full("o" + keep)[:16])
		p.write(3, full("p" + keep)[:16])
		p.crash(0, 4, keep)
		p.hold()
	}
	p.write(0, full("q"))
	p.barrier(0, 4)
	p.hold()
}

func TestLaterIsRising(t *testing.T) {
	rnd := rand.New(rand.NewSource(92))
	for range 50 {
		p := made(t, 1024)
		for range rnd.Intn(200) {
			p.write(rnd.Intn(1024), full("x"))
		}
		for range 20 {
			p.holdLater(rnd.Intn(1030)-3, rnd.Intn(1030)-3)
		}
		p.holdLater(math.MinInt, math.MaxInt)
	}
	p := made(t, 9)
	for _, at := range []int{7, 0, 8, 3} {
		p.write(at, full("x"))
	}
	if l := p.d.Later(0, 9); !slices.Equal(l, []int{0, 3, 7, 8}) {
		t.Errorf("Later: %v", l)
	}
	if l := p.d.Later(1, 8); !slices.Equal(l, []int{3, 7}) {
		t.Errorf("Later: %v", l)
	}
}

// P9.3

// Each byte of the cell, changed by each number: it is no good cell any more,
// and turned by the same once more it is as it was.
func TestTurnOfEachByte(t *testing.T) {
	p := made(t, 3)
	p.write(1, row(16))
	p.barrier(0, 3)
	for at := range 2 { // one that was never written to, and one that was
		for place := range 20 {
			for by := 1; by < 256; by++ {
				p.turn(at, place, byte(by))
				for name, ask := range map[string]func(int) ([]byte, api.Errno){"Read": p.d.Read, "Lasting": p.d.Lasting} {
					if b, e := ask(at); len(b) != 0 || e != api.ErrIO {
						t.Fatalf("%s(%d), %d turned by %d: %q, %d", name, at, place, by, b, e)
					}
				}
				p.turn(at, place, byte(by))
				p.holdSector(at)
			}
		}
	}
	p.hold()
}

func TestTurnByNought(t *testing.T) {
	p := lived(t)
	for at := range 6 {
		for place := range 20 {
			p.turn(at, place, 0)
		}
	}
	p.hold()
}

// The bytes of others are as they were, of those that were never written to
// too, and nothing is written by a turn.
func TestTurnOfOneSectorAlone(t *testing.T) {
	for at := range 6 {
		for place := range 20 {
			p := lived(t)
			p.turn(at, place, 0x5a)
			p.hold()
		}
	}
	p := made(t, 1024)
	p.turn(512, 0, 1)
	p.hold()
	made(t, 1024).hold()
}

func TestTurnWithALaterCellBeside(t *testing.T) {
	for _, place := range []int{0, 15, 16, 19} {
		turned := func() pair {
			p := made(t, 3)
			p.write(1, full("a"))
			p.barrier(0, 3)
			p.write(1, full("b"))
			p.turn(1, place, 4)
			p.hold()
			if b, e := p.d.Read(1); string(b) != full("b") || e != api.OK {
				t.Errorf("Read: %q, %d", b, e)
			}
			if b, e := p.d.Lasting(1); len(b) != 0 || e != api.ErrIO {
				t.Errorf("Lasting: %q, %d", b, e)
			}
			return p
		}
		p := turned()
		p.crash(0, 3, "0")
		if b, e := p.d.Read(1); len(b) != 0 || e != api.ErrIO {
			t.Errorf("Read behind the crash: %q, %d", b, e)
		}
		p.hold()
		p.turn(1, place, 4)
		p.hold()

		p = turned()
		p.crash(0, 3, "1")
		p.hold()
		p.turn(1, place, 4) // it is the new cell that is turned now
		p.hold()

		p = turned()
		p.barrier(0, 3)
		p.hold()
		p.turn(1, place, 4)
		p.hold()
		p.write(1, full("c")) // what is turned is written over
		p.hold()
		p.barrier(0, 3)
		p.hold()
	}
}

// Turned at all places a cell becomes another good one.
func TestTurnIntoAnotherCell(t *testing.T) {
	p := made(t, 2)
	p.write(0, row(16))
	p.barrier(0, 2)
	was, other := sealed(row(16)), sealed(full("z"))
	for place := range 20 {
		if p.turn(0, place, was[place]^other[place]); place < 19 {
			p.hold()
		}
	}
	if b, e := p.d.Read(0); string(b) != full("z") || e != api.OK {
		t.Errorf("Read: %q, %d", b, e)
	}
	p.hold()
}

func TestTurnOfNoSuchPlace(t *testing.T) {
	p := lived(t)
	for at := range 6 {
		for _, place := range append(far(), 20, 21, 32, 255, 256, 256+3) {
			for _, by := range []byte{0, 1, 255} {
				if e := p.d.Turn(at, place, by); e != api.ErrRange {
					t.Errorf("Turn(%d, %d, %d): %d", at, place, by, e)
				}
			}
		}
	}
	for _, at := range append(far(), 6, 7) {
		for _, place := range append(far(), 0, 1, 15, 16, 19, 20) {
			for _, by := range []byte{0, 1, 255} {
				if e := p.d.Turn(at, place, by); e != api.ErrRange {
					t.Errorf("Turn(%d, %d, %d): %d", at, place, by, e)
				}
			}
		}
	}
	p.hold()
	for _, place := range []int{0, 19} {
		p.turn(0, place, 1)
		p.hold()
	}
}

func TestHeadIsWhatWasSetLast(t *testing.T) {
	p := made(t, 2)
	if h := p.d.Head(); len(h) != 0 {
		t.Errorf("at first: %q", h)
	}
	for _, n := range append(lengths(), 4096, 100000) {
		for _, s := range []string{row(n), noughts(n), ""} {
			p.setHead(s)
			if h := p.d.Head(); string(h) != s {
				t.Fatalf("Head of %d bytes: %d bytes", len(s), len(h))
			}
			p.d.SetHead(nil)
			if h := p.d.Head(); len(h) != 0 {
				t.Fatalf("Head of nil: %q", h)
			}
			p.setHead(s)
		}
	}
	p.setHead("longer than the next")
	p.setHead("next")
	p.hold()
}

// The head lasts at once: no crash takes it, and no bit is asked for it.
func TestHeadIsKept(t *testing.T) {
	p := lived(t)
	p.setHead("kept")
	p.crash(0, 6, "000")
	p.hold()
	p.crash(0, 6, "111")
	p.hold()
	p.setHead("new")
	p.crash(math.MinInt, math.MaxInt, "11")
	p.hold()
	p.barrier(0, 6)
	p.write(0, full("x"))
	p.turn(0, 3, 1)
	p.hold()
	if h := p.d.Head(); string(h) != "new" {
		t.Errorf("Head: %q", h)
	}
}

// P9.4

func TestWhatIsWrittenIsReadAndLastsBehindABarrier(t *testing.T) {
	rnd := rand.New(rand.NewSource(94))
	for n := 1; n < 12; n++ {
		for range 20 {
			p := made(t, n)
			want := make([]string, n)
			for at := range want {
				want[at] = drawn(rnd, 16)
				p.write(at, want[at])
				if b, e := p.d.Read(at); string(b) != want[at] || e != api.OK {
					t.Fatalf("Read(%d): %q, %d", at, b, e)
				}
			}
			p.d.Barrier(0, n)
			keep := make([]bool, n)
			for i := range keep {
				keep[i] = rnd.Intn(2) == 1
			}
			for at := range want {
				if rnd.Intn(2) == 1 {
					p.write(at, want[at]) // later, but the same
				}
			}
			p.d.Crash(0, n, bits.New(keep...))
			for at := range want {
				if b, e := p.d.Read(at); string(b) != want[at] || e != api.OK {
					t.Fatalf("Read(%d) behind the crash: %q, %d", at, b, e)
				}
				if b, e := p.d.Lasting(at); string(b) != want[at] || e != api.OK {
					t.Fatalf("Lasting(%d) behind the crash: %q, %d", at, b, e)
				}
			}
		}
	}
}

// Behind a crash a sector is as it was at the last Barrier, or as it was
// written to last.
func TestBehindACrashItIsOneOfTwo(t *testing.T) {
	rnd := rand.New(rand.NewSource(95))
	p := made(t, 8)
	for range 500 {
		for range rnd.Intn(10) {
			p.write(rnd.Intn(8), drawn(rnd, 16))
		}
		if rnd.Intn(3) == 0 {
			p.barrier(rnd.Intn(9), rnd.Intn(9))
		}
		p.hold()
		p.crash(rnd.Intn(9), rnd.Intn(9), keeps(6)[rnd.Intn(127)])
		p.hold()
	}
}

// step makes one call by some numbers, such as are wrong among them.
func (p pair) step(kind, a, b int, s string) {
	p.t.Helper()
	switch kind % 8 {
	case 0, 1, 2:
		p.write(a, s)
	case 3:
		p.barrier(a, b)
	case 4:
		keep := make([]byte, len(s))
		for i := range keep {
			keep[i] = '0' + s[i]&1
		}
		p.crash(a, b, string(keep))
	case 5:
		p.turn(a, b, byte(len(s)))
	case 6:
		p.setHead(s)
	case 7:
		p.holdLater(a, b)
	}
}

func TestManyCalls(t *testing.T) {
	rnd := rand.New(rand.NewSource(96))
	for _, n := range []int{1, 2, 5, 17} {
		p := made(t, n)
		for range 1500 {
			size := 16
			if rnd.Intn(6) == 0 {
				size = rnd.Intn(20)
			}
			p.step(rnd.Intn(8), rnd.Intn(n+4)-2, rnd.Intn(n+4)-2, drawn(rnd, size))
			p.hold()
		}
	}
}

// R5

// told is all that a device tells, as one text.
func told(d *device.Device) string {
	var s strings.Builder
	for at := range d.Len() {
		b, e := d.Read(at)
		l, f := d.Lasting(at)
		s.WriteString(string(b) + e.Error() + string(l) + f.Error())
	}
	for _, at := range d.Later(0, d.Len()) {
		s.WriteString(" " + strconv.Itoa(at))
	}
	return s.String() + string(d.Head())
}

// The same calls tell the same, however often they are made: were a map gone
// through, of so many keys no two rows would be the same.
func TestTheSameCallsTellTheSame(t *testing.T) {
	once := func(seed int64) string {
		rnd := rand.New(rand.NewSource(seed))
		d, _ := device.New(200)
		for range 2 {
			for range 150 {
				d.Write(rnd.Intn(200), []byte(drawn(rnd, 16)))
			}
			d.Barrier(rnd.Intn(100), rnd.Intn(200))
			keep := bits.New()
			for range 60 {
				keep.Add(rnd.Intn(2) == 1)
			}
			d.Crash(20, 180, keep)
			d.Turn(rnd.Intn(200), rnd.Intn(20), 1)
			d.Write(rnd.Intn(200), []byte(drawn(rnd, 16)))
			d.SetHead([]byte(bits.Text(keep.Left()) + strconv.Itoa(keep.At())))
		}
		return told(d)
	}
	for seed := range int64(4) {
		want := once(seed)
		for range 20 {
			if once(seed) != want {
				t.Fatalf("the same calls, of seed %d, tell another thing", seed)
			}
		}
	}
}

// To be asked changes nothing, and two devices have nothing in common.
func TestAskingChangesNothing(t *testing.T) {
	p, other := lived(t), lived(t)
	for range 3 {
		p.hold()
	}
	for at := range 6 {
		p.write(at, full("o"))
		p.turn(at, at, 9)
		other.hold()
	}
	p.crash(0, 3, "11")
	p.barrier(0, 6)
	p.setHead("other")
	other.hold()
	p.hold()
}

// R4

func TestBytesOfWriteAreNeitherChangedNorKept(t *testing.T) {
	for _, n := range []int{0, 15, 16, 17, 20} {
		for _, room := range []int{0, 1, 4, 16, 40} {
			p := lived(t)
			for at := range 6 {
				b := roomy(row(n), room)
				p.m.write(at, row(n))
				p.d.Write(at, b)
				if whole := string(b[:cap(b)]); whole != row(n)+strings.Repeat("r", room) {
					t.Errorf("Write changed what was handed in: %q", whole)
				}
				fill(b, 'X')
			}
			p.hold()
			p.barrier(0, 6)
			p.hold()
		}
	}
}

// The same bytes handed in for several sectors are each sector's own.
func TestOneListForSeveralSectors(t *testing.T) {
	p := made(t, 4)
	b := []byte(row(16))
	for at := range 4 {
		b[0] = byte(at)
		p.m.write(at, string(b))
		p.d.Write(at, b)
	}
	p.hold()
	p.barrier(0, 2)
	p.turn(0, 0, 1)
	p.turn(3, 5, 1)
	p.hold()
}

func TestBytesOfSetHeadAreNeitherChangedNorKept(t *testing.T) {
	for _, n := range []int{0, 1, 4, 100} {
		for _, room := range []int{0, 1, 4, 40} {
			p := lived(t)
			b := roomy(row(n), room)
			p.m.head = row(n)
			p.d.SetHead(b)
			if whole := string(b[:cap(b)]); whole != row(n)+strings.Repeat("r", room) {
				t.Errorf("SetHead changed what was handed in: %q", whole)
			}
			fill(b, 'X')
			p.hold()
		}
	}
}

// What was told, turned with all of its room, changes nothing of the device,
// and nothing that is told again.
func TestWhatIsToldIsNew(t *testing.T) {
	p := lived(t)
	for at := -1; at < 7; at++ {
		for _, ask := range []func(int) ([]byte, api.Errno){p.d.Read, p.d.Lasting} {
			first, _ := ask(at)
			second, _ := ask(at)
			want := string(second)
			fill(first, 'X')
			if string(second) != want {
				t.Errorf("one memory of %d is told twice", at)
			}
		}
	}
	p.hold()
	first, second := p.d.Head(), p.d.Head()
	fill(first, 'X')
	if string(second) != "head" {
		t.Errorf("Head: %q", second)
	}
	p.hold()
	l, again := p.d.Later(0, 6), p.d.Later(0, 6)
	l = l[:cap(l)]
	for i := range l {
		l[i] = -1
	}
	if !slices.Equal(again, []int{2, 3, 5}) {
		t.Errorf("Later: %v", again)
	}
	p.hold()
}

// What was told stays, whatever the device is asked behind it.
func TestWhatWasToldStays(t *testing.T) {
	p := lived(t)
	read, _ := p.d.Read(3)
	lasting, _ := p.d.Lasting(3)
	head, later := p.d.Head(), p.d.Later(0, 6)
	p.turn(3, 0, 1)
	p.write(3, full("n"))
	p.write(0, full("n"))
	p.setHead("HEAD")
	p.crash(0, 4, "1")
	p.barrier(0, 6)
	p.turn(3, 0, 1)
	if string(read) != full("D") || string(lasting) != full("d") || string(head) != "head" || !slices.Equal(later, []int{2, 3, 5}) {
		t.Errorf("%q, %q, %q, %v", read, lasting, head, later)
	}
	p.hold()
}

// A script's bytes are calls: a kind, two numbers, how many bytes, the bytes.
func FuzzDevice(f *testing.F) {
	f.Add(byte(4), []byte("\x00\x03\x00\x100123456789abcdef\x04\x00\x05\x01\x01"))
	f.Add(byte(0), []byte("\x00\x02\x00\x10................\x03\x00\x09\x00\x05\x02\x13\x01x\x06\x00\x00\x02hi"))
	f.Fuzz(func(t *testing.T, n byte, script []byte) {
		p := made(t, int(n)+1)
		for len(script) >= 4 {
			kind, a, b, size := int(script[0]), int(script[1])-2, int(script[2])-2, int(script[3])
			script = script[4:]
			size = min(size, len(script))
			p.step(kind, a, b, string(script[:size]))
			script = script[size:]
		}
		p.hold()
	})
}
