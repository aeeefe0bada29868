package octet

import (
	"math"
	"math/big"
	"math/rand"
	"slices"
	"strings"
	"sync"
	"testing"

	"lodge/nat"
)

const top = math.MaxUint64

// numbers are ordinary ones and edges; many have noughts on top.
func numbers() [][]uint64 {
	return [][]uint64{
		nil,
		{},
		{0},
		{0, 0, 0},
		make([]uint64, 5, 9),
		{1},
		{1, 0},
		{127},
		{128},
		{255},
		{256},
		{256, 0},
		{1 << 56},
		{1<<56 - 1},
		{1 << 63},
		{1<<63 - 1},
		{top},
		{top, 0, 0},
		{0, 1},
		{2, 1},
		{2, 1, 0},
		{0, 255},
		{0, 256},
		{top, 1<<56 - 1},
		{0, 1 << 56},
		{0, 1 << 63},
		{top, top},
		{0, 0, 1},
		{0, 0, top},
		{top, 0, 1},
		{0x0123456789abcdef, 0xfedcba9876543210, 42},
	}
}

// texts are ordinary ones and edges; many have noughts on top.
func texts() []string {
	return []string{
		"",
		"\x00",
		"\x00\x00",
		strings.Repeat("\x00", 7),
		strings.Repeat("\x00", 8),
		strings.Repeat("\x00", 9),
		strings.Repeat("\x00", 40),
		"\x01",
		"\x80",
		"\xff",
		"\x01\x00",
		"\x00\x01",
		"a text",
		"\x00a text",
		"\xc3\x28 is no rune, \u00fc is one",
		strings.Repeat("\xff", 7),
		strings.Repeat("\xff", 8),
		strings.Repeat("\xff", 9),
		"\x00" + strings.Repeat("\xff", 8),
		strings.Repeat("\x00", 8) + "\x05",
		"\x01" + strings.Repeat("\x00", 7) + "\x02",
		"\x01" + strings.Repeat("\x00", 15),
		"\x01" + strings.Repeat("\x00", 16),
	}
}

// madeNumbers are numbers from a fixed seed, many of their limbs at the ends
// of the type.
func madeNumbers(count int) [][]uint64 {
	r := rand.New(rand.NewSource(4))
	all := make([][]uint64, count)
	for i := range all {
		a := make([]uint64, r.Intn(7))
		for j := range a {
			a[j] = []uint64{0, 0, 1, top, 1 << 56, 1<<56 - 1, r.Uint64(), r.Uint64() >> r.Intn(64)}[r.Intn(8)]
		}
		all[i] = a
	}
	return all
}

// madeTexts are texts from a fixed seed, many of their bytes at the ends of
// the type.
func madeTexts(count int) []string {
	r := rand.New(rand.NewSource(5))
	all := make([]string, count)
	for i := range all {
		raw := make([]byte, r.Intn(42))
		for j := range raw {
			raw[j] = []byte{0, 0, 1, 255, 128, byte(r.Intn(256))}[r.Intn(6)]
		}
		all[i] = string(raw)
	}
	return all
}

func allNumbers() [][]uint64 { return append(numbers(), madeNumbers(500)...) }

func allTexts() []string { return append(texts(), madeTexts(500)...) }

// value is a as math/big has it: put together by sums and shifts, by none of
// the project's own means.
func value(a []uint64) *big.Int {
	v := new(big.Int)
	for _, limb := range slices.Backward(a) {
		v.Lsh(v, 64).Add(v, new(big.Int).SetUint64(limb))
	}
	return v
}

// goesTo holds To, and what follows, against math/big.
func goesTo(t *testing.T, a []uint64) {
	t.Helper()
	s := To(a)
	if want := string(value(a).Bytes()); s != want {
		t.Errorf("To(%v): %q, want %q", a, s, want)
	}
	if !Whole(s) {
		t.Errorf("To(%v): a nought on top of %q", a, s)
	}
	// P3.2.
	if back := From(s); !slices.Equal(back, nat.Trim(a)) {
		t.Errorf("%v, there and back: %v", a, back)
	}
}

// comesFrom holds From, and what follows, against math/big.
func comesFrom(t *testing.T, s string) {
	t.Helper()
	a := From(s)
	if value(a).Cmp(new(big.Int).SetBytes([]byte(s))) != 0 {
		t.Errorf("From(%q): %v", s, a)
	}
	if len(a) > 0 && a[len(a)-1] == 0 {
		t.Errorf("From(%q): a nought on top of %v", s, a)
	}
	// P3.2.
	if back := To(a); back != strings.TrimLeft(s, "\x00") {
		t.Errorf("%q, there and back: %q", s, back)
	}
}

// P3.1, P3.2: To.
func TestTo(t *testing.T) {
	for _, a := range allNumbers() {
		goesTo(t, a)
	}
}

func TestToEdges(t *testing.T) {
	for _, c := range []struct {
		what string
		a    []uint64
		want string
	}{
		{"the chapter's example", []uint64{2, 1}, "\x01\x00\x00\x00\x00\x00\x00\x00\x02"},
		{"it with noughts on top", []uint64{2, 1, 0, 0}, "\x01\x00\x00\x00\x00\x00\x00\x00\x02"},
		{"nothing", nil, ""},
		{"nothing, empty", []uint64{}, ""},
		{"a nought", []uint64{0}, ""},
		{"noughts", []uint64{0, 0, 0}, ""},
		{"one byte", []uint64{255}, "\xff"},
		{"two bytes", []uint64{256}, "\x01\x00"},
		{"in order", []uint64{0x0102030405060708}, "\x01\x02\x03\x04\x05\x06\x07\x08"},
		{"in order, two limbs", []uint64{0x090a0b0c0d0e0f10, 0x0102030405060708}, "\x01\x02\x03\x04\x05\x06\x07\x08\x09\x0a\x0b\x0c\x0d\x0e\x0f\x10"},
		{"one fewer than a limb", []uint64{0x02030405060708}, "\x02\x03\x04\x05\x06\x07\x08"},
		{"one more than a limb", []uint64{top, 1}, "\x01\xff\xff\xff\xff\xff\xff\xff\xff"},
		{"a limb of nought below", []uint64{0, 3}, "\x03\x00\x00\x00\x00\x00\x00\x00\x00"},
	} {
		if got := To(c.a); got != c.want {
			t.Errorf("%s: %q", c.what, got)
		}
	}
}

// P3.1, P3.2: From.
func TestFrom(t *testing.T) {
	for _, s := range allTexts() {
		comesFrom(t, s)
	}
}

func TestFromEdges(t *testing.T) {
	for _, c := range []struct {
		what string
		s    string
		want []uint64
	}{
		{"the chapter's example", "\x01\x00\x00\x00\x00\x00\x00\x00\x02", []uint64{2, 1}},
		{"the empty text", "", nil},
		{"a nought", "\x00", nil},
		{"as many noughts as a limb has bytes", "\x00\x00\x00\x00\x00\x00\x00\x00", nil},
		{"one nought more", "\x00\x00\x00\x00\x00\x00\x00\x00\x00", nil},
		{"one byte", "\xff", []uint64{255}},
		{"two bytes", "\x01\x00", []uint64{256}},
		{"in order", "\x01\x02\x03\x04\x05\x06\x07\x08", []uint64{0x0102030405060708}},
		{"in order, two limbs", "\x01\x02\x03\x04\x05\x06\x07\x08\x09\x0a\x0b\x0c\x0d\x0e\x0f\x10", []uint64{0x090a0b0c0d0e0f10, 0x0102030405060708}},
		{"one fewer than a limb", "\x02\x03\x04\x05\x06\x07\x08", []uint64{0x02030405060708}},
		{"one more than a limb", "\x01\xff\xff\xff\xff\xff\xff\xff\xff", []uint64{top, 1}},
		{"a limb of noughts on top", "\x00\x00\x00\x00\x00\x00\x00\x00\x05", []uint64{5}},
		{"bytes that are no runes", "\xc3\x28\xff", []uint64{0xc328ff}},
	} {
		if got := From(c.s); !slices.Equal(got, c.want) {
			t.Errorf("%s: %v", c.what, got)
		}
	}
}

// P3.1: noughts ahead of a text come to the same number.
func TestNoughtsAhead(t *testing.T) {
	for _, s := range allTexts() {
		want := From(s)
		for n := range 20 {
			longer := strings.Repeat("\x00", n) + s
			if got := From(longer); !slices.Equal(got, want) {
				t.Errorf("From(%q): %v, want %v", longer, got, want)
			}
			comesFrom(t, longer)
		}
	}
}

// P3.1: nought limbs on top of a number come to the same bytes.
func TestNoughtLimbsOnTop(t *testing.T) {
	for _, a := range allNumbers() {
		want := To(a)
		for n := range 4 {
			higher := append(slices.Clone(a), make([]uint64, n)...)
			if got := To(higher); got != want {
				t.Errorf("To(%v): %q, want %q", higher, got, want)
			}
		}
	}
}

// P3.1: Whole.
func TestWhole(t *testing.T) {
	for _, c := range []struct {
		s    string
		want bool
	}{
		{"", true},
		{"\x00", false},
		{"\x00\x00", false},
		{"\x00\x01", false},
		{"\x00\xff", false},
		{"\x01", true},
		{"\x01\x00", true},
		{"\x80", true},
		{"\xff", true},
		{"0", true},
		{strings.Repeat("\x00", 9), false},
		{strings.Repeat("\xff", 9), true},
	} {
		if Whole(c.s) != c.want {
			t.Errorf("Whole(%q): %v", c.s, !c.want)
		}
	}
	for x := range 256 {
		for _, rest := range texts() {
			if s := string([]byte{byte(x)}) + rest; Whole(s) != (x != 0) {
				t.Errorf("Whole(%q): %v", s, x == 0)
			}
		}
	}
}

// P3.1, P3.2: a text is whole just where it comes back as it was.
func TestWholeComesBack(t *testing.T) {
	for _, s := range allTexts() {
		if Whole(s) != (To(From(s)) == s) {
			t.Errorf("Whole(%q): %v, but it comes back as %q", s, Whole(s), To(From(s)))
		}
	}
}

// P3.1: each byte in each place of a limb, beside others of 0 and of 255, in
// the first limb and in others.
func TestEachByteInEachPlace(t *testing.T) {
	for place := range 26 {
		for x := range 256 {
			alone := make([]byte, place+1)
			alone[0] = byte(x)
			comesFrom(t, string(alone))
			for _, others := range []byte{0, 255} {
				among := slices.Repeat([]byte{others}, 26)
				among[place] = byte(x)
				comesFrom(t, string(among))
				goesTo(t, From(string(among)))
			}
			a := make([]uint64, place/8+1)
			a[place/8] = uint64(x) << (place % 8 * 8)
			goesTo(t, a)
			for i := range a {
				a[i] = ^a[i]
			}
			goesTo(t, a)
		}
	}
}

// P3.1, P3.2: of each count of bytes the least number and the greatest, from
// none on through many limbs.
func TestEachCountOfBytes(t *testing.T) {
	for n := range 100 {
		if n > 0 {
			least := "\x01" + strings.Repeat("\x00", n-1)
			comesFrom(t, least)
			if got := len(To(From(least))); got != n {
				t.Errorf("the least of %d bytes: %d", n, got)
			}
		}
		greatest := strings.Repeat("\xff", n)
		comesFrom(t, greatest)
		a := From(greatest)
		if len(a) != (n+7)/8 {
			t.Errorf("%d bytes: %d limbs", n, len(a))
		}
		goesTo(t, a)
		// One more is a byte more, a limb more too where the limbs are full.
		goesTo(t, nat.Add(a, []uint64{1}))
		if got := len(To(nat.Add(a, []uint64{1}))); got != n+1 {
			t.Errorf("one more than the greatest of %d bytes: %d", n, got)
		}
	}
}

// P1: many limbs, and many noughts on top, end too.
func TestGreat(t *testing.T) {
	ones := slices.Repeat([]uint64{top}, 5000)
	goesTo(t, ones)
	goesTo(t, append(ones, make([]uint64, 5000)...))
	comesFrom(t, strings.Repeat("\x00", 100001)+strings.Repeat("\x7f", 100003))
	if got := To(make([]uint64, 5000)); got != "" {
		t.Errorf("many noughts: %q", got)
	}
	if got := From(strings.Repeat("\x00", 100001)); len(got) != 0 {
		t.Errorf("many noughts: %v", got)
	}
}

// guarded is a within a longer list, so that it has spare room; whole is that
// list.
func guarded(a []uint64) (inside, whole []uint64) {
	whole = append(slices.Clone(a), 77, 78, 79)
	return whole[:len(a)], whole
}

// Rule 3: what is handed in is not changed, its spare room neither; a text
// that was answered stays as it was, whatever becomes of the number.
func TestArgumentsStay(t *testing.T) {
	for _, a := range allNumbers() {
		inside, whole := guarded(a)
		before := slices.Clone(whole)
		s := To(inside)
		kept := strings.Clone(s)
		if !slices.Equal(whole, before) {
			t.Errorf("%v was changed: %v", before, whole)
		}
		for i := range whole {
			whole[i] = 0xbad
		}
		if s != kept {
			t.Errorf("%v: its bytes were changed: %q, %q", a, kept, s)
		}
	}
}

// Rules 3 and 4: each answer of From is memory of its own, and another one
// does not hang on what became of it.
func TestAnswersAreNew(t *testing.T) {
	for _, s := range allTexts() {
		first, kept := From(s), strings.Clone(s)
		want := slices.Clone(first)
		room := first[:cap(first)]
		for i := range room {
			room[i] = 0xbad
		}
		if got := From(s); !slices.Equal(got, want) || s != kept {
			t.Errorf("%q: %v, and then %v", s, want, got)
		}
	}
}

// Rules 4 and 6: the same arguments come to the same, in whatever goroutine,
// whatever room there is behind them.
func TestManyAtOnce(t *testing.T) {
	lists, words := allNumbers(), allTexts()
	var group sync.WaitGroup
	for range 8 {
		group.Go(func() {
			for _, a := range lists {
				inside, _ := guarded(a)
				goesTo(t, a)
				goesTo(t, inside)
			}
			for _, s := range words {
				comesFrom(t, s)
			}
		})
	}
	group.Wait()
}

// P1: no call panics, at any arguments; each answer is right at all of them.
func FuzzAll(f *testing.F) {
	f.Add([]byte{})
	f.Add([]byte{0})
	f.Add([]byte{1, 0, 0, 0, 0, 0, 0, 0, 2})
	f.Add(slices.Repeat([]byte{255}, 17))
	f.Add(make([]byte, 24))
	f.Fuzz(func(t *testing.T, p []byte) {
		s := string(p)
		comesFrom(t, s)
		goesTo(t, limbs(p))
		if Whole(s) != (To(From(s)) == s) {
			t.Errorf("Whole(%q): %v", s, Whole(s))
		}
	})
}

// limbs reads bytes as limbs, eight a limb, the last one filled up.
func limbs(p []byte) []uint64 {
	var a []uint64
	for i, x := range p {
		if i%8 == 0 {
			a = append(a, 0)
		}
		a[i/8] |= uint64(x) << (i % 8 * 8)
	}
	return a
}
