package bits_test

import (
	"math/rand"
	"slices"
	"strings"
	"testing"

	"allotment/api"
	"allotment/bits"
)

// someBits are lists of bits: all of up to 7 bits, and some longer ones.
func someBits() [][]bool {
	lists := [][]bool{nil}
	for n := range 8 {
		for x := range 1 << n {
			l := make([]bool, n)
			for i := range l {
				l[i] = x>>i&1 == 1
			}
			lists = append(lists, l)
		}
	}
	rnd := rand.New(rand.NewSource(3))
	for _, n := range []int{8, 9, 63, 64, 65, 1000} {
		l := make([]bool, n)
		for i := range l {
			l[i] = rnd.Intn(2) == 1
		}
		lists = append(lists, l)
	}
	return lists
}

// plain is the text of bits.
func plain(l []bool) string {
	s := ""
	for _, bit := range l {
		s += map[bool]string{true: "1", false: "0"}[bit]
	}
	return s
}

// listOf is the bits of a text that has no other byte than 0 and 1.
func listOf(text string) []bool {
	l := []bool{}
	for _, r := range text {
		l = append(l, r == '1')
	}
	return l
}

// roomy is bits in a list with spare room, which holds the bit x.
func roomy(l []bool, room int, x bool) []bool {
	whole := append(slices.Clone(l), slices.Repeat([]bool{x}, room)...)
	return whole[:len(l):len(whole)]
}

// turn turns all bits of a list, and those of all of its room.
func turn(l []bool) {
	l = l[:cap(l)]
	for i := range l {
		l[i] = !l[i]
	}
}

// want holds a stream against its place and what is left, without a Next.
func want(t *testing.T, s *bits.Stream, at int, left []bool) {
	t.Helper()
	if got := s.At(); got != at {
		t.Errorf("At: %d, want %d", got, at)
	}
	if got := s.Left(); !slices.Equal(got, left) {
		t.Errorf("Left: %v, want %v", got, left)
	}
}

// wantNext holds what is told by as many Next as there are bits.
func wantNext(t *testing.T, s *bits.Stream, told ...bool) {
	t.Helper()
	for i, bit := range told {
		if got := s.Next(); got != bit {
			t.Errorf("Next, the %d. of %d: %v, want %v", i+1, len(told), got, bit)
		}
	}
}

// P3.1

func TestNewStreamWasToldNothing(t *testing.T) {
	for _, l := range someBits() {
		want(t, bits.New(l...), 0, l)
	}
	want(t, bits.New(true), 0, []bool{true})
	want(t, bits.New(false), 0, []bool{false})
}

func TestNextTellsInTheirRow(t *testing.T) {
	s := bits.New(true, false)
	wantNext(t, s, true, false, false)
	want(t, s, 2, nil)
	for _, l := range someBits() {
		s := bits.New(l...)
		for i, bit := range l {
			want(t, s, i, l[i:])
			wantNext(t, s, bit)
		}
		want(t, s, len(l), nil)
	}
}

func TestNextBehindTheLastChangesNothing(t *testing.T) {
	for _, l := range someBits() {
		s := bits.New(l...)
		wantNext(t, s, l...)
		for range 3 {
			wantNext(t, s, false)
			want(t, s, len(l), nil)
		}
	}
}

func TestStreamOfNoBits(t *testing.T) {
	for _, s := range []*bits.Stream{bits.New(), bits.New(nil...), bits.New([]bool{}...)} {
		want(t, s, 0, nil)
		wantNext(t, s, false, false)
		want(t, s, 0, nil)
		s.Add(true)
		want(t, s, 0, []bool{true})
		wantNext(t, s, true, false)
		want(t, s, 1, nil)
	}
}

func TestAskingTellsNothing(t *testing.T) {
	s := bits.New(true, true, false)
	for range 5 {
		want(t, s, 0, []bool{true, true, false})
	}
	wantNext(t, s, true)
	for range 5 {
		want(t, s, 1, []bool{true, false})
	}
}

func TestAddPutsBehindTheLast(t *testing.T) {
	for _, l := range someBits() {
		for told := range min(len(l), 9) + 1 {
			for _, more := range [][]bool{{true}, {false}, {false, true}, {true, false, true, true}} {
				s := bits.New(l...)
				wantNext(t, s, l[:told]...)
				s.Add(more...)
				all := slices.Concat(l, more)
				want(t, s, told, all[told:])
				wantNext(t, s, all[told:]...)
				want(t, s, len(all), nil)
				wantNext(t, s, false)
			}
		}
	}
}

func TestAddToAStreamThatWasTold(t *testing.T) {
	s := bits.New(false, true)
	wantNext(t, s, false, true, false, false, false)
	s.Add(true, false)
	want(t, s, 2, []bool{true, false})
	wantNext(t, s, true, false, false)
	want(t, s, 4, nil)
	s.Add(true)
	want(t, s, 4, []bool{true})
	wantNext(t, s, true, false)
	want(t, s, 5, nil)
}

func TestAddOfNone(t *testing.T) {
	for _, l := range someBits() {
		for told := range min(len(l), 9) + 1 {
			s := bits.New(l...)
			wantNext(t, s, l[:told]...)
			s.Add()
			s.Add(nil...)
			s.Add([]bool{}...)
			want(t, s, told, l[told:])
			wantNext(t, s, l[told:]...)
			wantNext(t, s, false)
			s.Add()
			wantNext(t, s, false)
			want(t, s, len(l), nil)
		}
	}
}

func TestStreamsAreApart(t *testing.T) {
	l := []bool{true, false, true}
	a, b := bits.New(l...), bits.New(l...)
	wantNext(t, a, true)
	a.Add(true, true)
	want(t, b, 0, l)
	b.Add(false)
	wantNext(t, b, true, false, true, false, false)
	want(t, a, 1, []bool{false, true, true, true})
}

// P3.2

func TestTextOfBits(t *testing.T) {
	for _, l := range someBits() {
		if got := bits.Text(l); got != plain(l) {
			t.Errorf("Text(%v): %q", l, got)
		}
	}
	for text, l := range map[string][]bool{"1": {true}, "0": {false}, "10": {true, false}, "0110": {false, true, true, false}} {
		if got := bits.Text(l); got != text {
			t.Errorf("Text(%v): %q, want %q", l, got, text)
		}
	}
	for _, none := range [][]bool{nil, {}} {
		if got := bits.Text(none); got != "" {
			t.Errorf("Text of none: %q", got)
		}
	}
}

func TestParseOfTexts(t *testing.T) {
	for _, l := range someBits() {
		text := plain(l)
		got, e := bits.Parse(text)
		if e != api.OK || !slices.Equal(got, l) {
			t.Errorf("Parse(%q): %v, %d", text, got, e)
		}
		if back := bits.Text(got); back != text {
			t.Errorf("the text of Parse(%q): %q", text, back)
		}
	}
	if got, e := bits.Parse(""); e != api.OK || len(got) != 0 {
		t.Errorf("Parse of no text: %v, %d", got, e)
	}
}

// Beside an error no bits are told (R2), at whatever place the byte stands.
func TestParseOfAnotherByte(t *testing.T) {
	for x := range 256 {
		if x == '0' || x == '1' {
			continue
		}
		bad := string([]byte{byte(x)})
		for _, text := range []string{bad, bad + "0", bad + "101", "0" + bad + "1", "11" + bad + "00", "1" + bad, "0110" + bad, bad + bad, strings.Repeat("1", 500) + bad + strings.Repeat("0", 500)} {
			if got, e := bits.Parse(text); len(got) != 0 || e != api.ErrForm {
				t.Fatalf("Parse(%q): %v, %d", text, got, e)
			}
		}
	}
}

func TestParseOfLongerForms(t *testing.T) {
	for _, text := range []string{" ", "-", "+1", "0x1", "0b1", "1_0", "true", "01\n", "\u0660", "\u0661", "\uff10\uff11", "1\u00b9"} {
		if got, e := bits.Parse(text); len(got) != 0 || e != api.ErrForm {
			t.Errorf("Parse(%q): %v, %d", text, got, e)
		}
	}
}

// P3.3

func TestWhatIsToldAndLeftIsWhatWasPutIn(t *testing.T) {
	rnd := rand.New(rand.NewSource(33))
	for range 300 {
		var put, told []bool
		draw := func() []bool {
			l := make([]bool, rnd.Intn(6))
			for i := range l {
				l[i] = rnd.Intn(2) == 1
			}
			put = append(put, l...)
			return l
		}
		s := bits.New(draw()...)
		for range 60 {
			if rnd.Intn(4) == 0 {
				s.Add(draw()...)
			} else if len(told) < len(put) {
				told = append(told, s.Next())
			} else {
				wantNext(t, s, false)
			}
			if s.At() != len(told) || !slices.Equal(slices.Concat(told, s.Left()), put) {
				t.Fatalf("told %v, left %v, at %d; put in %v", told, s.Left(), s.At(), put)
			}
		}
	}
}

func TestManyBits(t *testing.T) {
	const n = 1 << 18
	s := bits.New()
	for i := range n {
		s.Add(i%3 == 0)
	}
	for i := range n {
		if s.Next() != (i%3 == 0) || s.At() != i+1 {
			t.Fatal(i, s.At())
		}
		s.Add(i%5 == 0)
	}
	left := s.Left()
	for i := range n {
		if left[i] != (i%5 == 0) {
			t.Fatal(i)
		}
	}
	if len(left) != n {
		t.Error(len(left))
	}
}

// R4

func TestBitsHandedInAreNeitherChangedNorKept(t *testing.T) {
	for name, stream := range map[string]func(l []bool) *bits.Stream{
		"New": func(l []bool) *bits.Stream { return bits.New(l...) },
		"Add": func(l []bool) *bits.Stream {
			s := bits.New()
			s.Add(l...)
			return s
		},
	} {
		for _, l := range someBits() {
			for _, room := range []int{0, 1, 9} {
				for _, x := range []bool{true, false} {
					own := roomy(l, room, x)
					whole := slices.Clone(own[:cap(own)])
					s, other := stream(own), stream(own)
					s.Add(!x, !x)
					s.Next()
					if !slices.Equal(own[:cap(own)], whole) {
						t.Fatalf("%s(%v) changed it to %v", name, whole, own[:cap(own)])
					}
					turn(own)
					want(t, other, 0, l)
					wantNext(t, other, l...)
					all := slices.Concat(l, []bool{!x, !x})
					want(t, s, 1, all[1:])
				}
			}
		}
	}
}

func TestAddBehindOthersDoesNotKeepThem(t *testing.T) {
	for room := range 5 {
		s := bits.New(true, false, true)
		wantNext(t, s, true)
		more := roomy([]bool{true, true, false}, room, true)
		s.Add(more...)
		turn(more)
		want(t, s, 1, []bool{false, true, true, true, false})
		s.Add(more...)
		whole := slices.Clone(more[:cap(more)])
		s.Add(false)
		if !slices.Equal(more[:cap(more)], whole) {
			t.Errorf("Add changed %v to %v", whole, more[:cap(more)])
		}
		want(t, s, 1, []bool{false, true, true, true, false, false, false, true, false})
	}
}

func TestLeftIsNewMemory(t *testing.T) {
	for _, l := range someBits() {
		s := bits.New(l...)
		s.Add(true, false, true)
		wantNext(t, s, slices.Concat(l, []bool{true})[0])
		all := slices.Concat(l, []bool{true, false, true})[1:]
		first, second := s.Left(), s.Left()
		turn(first)
		if !slices.Equal(second, all) {
			t.Errorf("one memory is told twice: %v, want %v", second, all)
		}
		want(t, s, 1, all)
		s.Add(true, true)
		_ = append(second, false, false)
		want(t, s, 1, slices.Concat(all, []bool{true, true}))
		if !slices.Equal(second, all) {
			t.Errorf("an Add changed what was told: %v, want %v", second, all)
		}
		wantNext(t, s, all...)
		wantNext(t, s, true, true, false)
	}
}

// What is put into the room of what Left told does not come to the stream.
func TestRoomOfLeftIsNotTheStreams(t *testing.T) {
	s := bits.New(true, true)
	for range 20 {
		s.Add(true)
		turn(s.Left())
		s.Add(true)
	}
	if left := s.Left(); slices.Contains(left, false) || len(left) != 42 {
		t.Errorf("%v", left)
	}
}

func TestParseIsNewMemory(t *testing.T) {
	for _, text := range []string{"", "0", "1", "0110", strings.Repeat("01", 100)} {
		first, e := bits.Parse(text)
		second, e2 := bits.Parse(text)
		if e != api.OK || e2 != api.OK {
			t.Errorf("Parse(%q): %d, %d", text, e, e2)
		}
		turn(first)
		_ = append(first, true)
		if third, _ := bits.Parse(text); plain(second) != text || plain(third) != text {
			t.Errorf("Parse(%q): one memory is told twice", text)
		}
	}
}

func TestTextLeavesWhatIsHandedIn(t *testing.T) {
	for _, l := range someBits() {
		own := roomy(l, 7, true)
		whole := slices.Clone(own[:cap(own)])
		text := bits.Text(own)
		if text != plain(l) || !slices.Equal(own[:cap(own)], whole) {
			t.Errorf("Text(%v): %q, and left %v", l, text, own[:cap(own)])
		}
		turn(own)
		if text != plain(l) {
			t.Errorf("Text(%v) hangs on what was handed in", l)
		}
	}
}

// FuzzStream drives a stream by a text: 0 and 1 are added, each other byte is
// a Next; and holds Parse of that text against the chapter's words.
func FuzzStream(f *testing.F) {
	f.Add("")
	f.Add("01n1nnn0n")
	f.Add("0110")
	f.Fuzz(func(t *testing.T, text string) {
		s, put, told := bits.New(), "", ""
		for _, x := range []byte(text) {
			if x == '0' || x == '1' {
				s.Add(x == '1')
				put += string([]byte{x})
			} else if got := s.Next(); len(told) < len(put) {
				told += plain([]bool{got})
			} else if got {
				t.Fatal("true behind the last one")
			}
			if s.At() != len(told) || told+plain(s.Left()) != put {
				t.Fatal(told, s.Left(), put)
			}
		}
		got, e := bits.Parse(text)
		if put != text {
			if e != api.ErrForm || len(got) != 0 {
				t.Fatal(got, e)
			}
		} else if e != api.OK || !slices.Equal(got, listOf(text)) || bits.Text(got) != text {
			t.Fatal(got, e)
		}
	})
}
