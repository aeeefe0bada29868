package lay

import (
	"encoding/binary"
	"math"
	"math/big"
	"math/rand"
	"strings"
	"sync"
	"testing"
)

// numbers are ordinary ones and edges, those that 31 bits do not hold too.
func numbers() []int {
	return []int{
		0, 1, 2, 7, 127, 128, 255, 256, 257, 258, 1000, 60000,
		1<<16 - 1, 1 << 16, 1<<24 - 1, 1 << 24, 0x01020304, 0x7f80ff01,
		1<<30 - 1, 1 << 30, 1<<31 - 2, 1<<31 - 1,
		1 << 31, 1<<31 + 1, 1<<31 + 258, 1<<32 - 1, 1 << 32, 1<<32 + 258, 1<<33 - 1, 1 << 40,
		-1, -2, -255, -256, -258, -1 << 30, -1 << 31, -1<<31 - 1, -1<<31 + 258, -1 << 32, -1<<32 - 1,
		math.MinInt, math.MinInt + 1, math.MinInt + 258, math.MaxInt - 1, math.MaxInt,
	}
}

// texts are ordinary ones and edges: empty, one byte, many bytes, bytes of all
// values, and such as look like a number or a text themselves.
func texts() []string {
	return []string{
		"", "a", "\x00", "\xff", "ab", "abc", "\x00\x00\x00\x02ab", "\x00\x00\x00\x00", "\xff\xff\xff\xff",
		"\xc3\x28 is no rune, \u00fc is one", allBytes(),
		strings.Repeat("b", 127), strings.Repeat("c", 128), strings.Repeat("d", 255), strings.Repeat("e", 256),
		strings.Repeat("\x00", 257), strings.Repeat("\xff", 1000), strings.Repeat(allBytes(), 256), strings.Repeat("f", 1<<16+1),
	}
}

func allBytes() string {
	raw := make([]byte, 256)
	for i := range raw {
		raw[i] = byte(i)
	}
	return string(raw)
}

// low is what of n is laid: its rest by 2^31, by math/big's means alone.
func low(n int) int {
	return int(new(big.Int).Mod(big.NewInt(int64(n)), big.NewInt(1<<31)).Int64())
}

// four are the bytes of a number of 32 bits, by the library's means alone.
func four(n uint32) string { return string(binary.BigEndian.AppendUint32(nil, n)) }

// readNum is what Num is to do to a Left, and to answer.
func readNum(l Left, most int) (Left, int) {
	if l.Bad || len(l.S) < 4 {
		return Left{l.S, true}, 0
	}
	n := int64(binary.BigEndian.Uint32([]byte(l.S)))
	if n > int64(most) || n >= 1<<31 {
		return Left{l.S[4:], true}, 0
	}
	return Left{l.S[4:], false}, int(n)
}

// readText is what Text is to do to a Left, and to answer.
func readText(l Left, most int) (Left, string) {
	l, n := readNum(l, most)
	if l.Bad || len(l.S) < n {
		return Left{l.S, true}, ""
	}
	return Left{l.S[n:], false}, l.S[:n]
}

// same tells where two texts are not the same.
func same(t *testing.T, what, got, want string) {
	t.Helper()
	if got != want {
		t.Errorf("%s: %q, want %q", what, short(got), short(want))
	}
}

// short keeps what a test tells readable.
func short(s string) string { return s[:min(len(s), 40)] }

// stands tells where a Left isn't as it must be, and where Done tells
// otherwise than that.
func stands(t *testing.T, what string, l *Left, want Left) {
	t.Helper()
	if l.Bad != want.Bad {
		t.Errorf("%s: Bad is %v", what, l.Bad)
	}
	same(t, what+": left", l.S, want.S)
	if done := l.Done(); done != (!want.Bad && want.S == "") {
		t.Errorf("%s: Done is %v, of %q, Bad %v", what, done, short(want.S), want.Bad)
	}
	if l.Bad != want.Bad || l.S != want.S {
		t.Errorf("%s: Done has changed it", what)
	}
}

// readsNum tells where Num reads otherwise than it must.
func readsNum(t *testing.T, what string, l *Left, most int) {
	t.Helper()
	after, want := readNum(*l, most)
	if got := l.Num(most); got != want {
		t.Errorf("%s: Num(%d) is %d, want %d", what, most, got, want)
	}
	stands(t, what, l, after)
}

// readsText tells where Text reads otherwise than it must.
func readsText(t *testing.T, what string, l *Left, most int) {
	t.Helper()
	after, want := readText(*l, most)
	same(t, what+": Text", l.Text(most), want)
	stands(t, what, l, after)
}

// P7.1: Num, at each edge written out.
func TestNumEdges(t *testing.T) {
	for _, c := range []struct {
		n    int
		want string
	}{
		{258, "\x00\x00\x01\x02"},
		{0, "\x00\x00\x00\x00"},
		{1, "\x00\x00\x00\x01"},
		{255, "\x00\x00\x00\xff"},
		{256, "\x00\x00\x01\x00"},
		{1 << 16, "\x00\x01\x00\x00"},
		{1 << 24, "\x01\x00\x00\x00"},
		{0x01020304, "\x01\x02\x03\x04"},
		{1 << 30, "\x40\x00\x00\x00"},
		{1<<31 - 1, "\x7f\xff\xff\xff"},
		{1 << 31, "\x00\x00\x00\x00"},
		{1<<31 + 258, "\x00\x00\x01\x02"},
		{1<<32 - 1, "\x7f\xff\xff\xff"},
		{1 << 32, "\x00\x00\x00\x00"},
		{1<<32 + 1, "\x00\x00\x00\x01"},
		{-1, "\x7f\xff\xff\xff"},
		{-2, "\x7f\xff\xff\xfe"},
		{-256, "\x7f\xff\xff\x00"},
		{-1 << 31, "\x00\x00\x00\x00"},
		{-1<<31 - 1, "\x7f\xff\xff\xff"},
		{math.MinInt, "\x00\x00\x00\x00"},
		{math.MinInt + 1, "\x00\x00\x00\x01"},
		{math.MaxInt, "\x7f\xff\xff\xff"},
	} {
		if got := Num(c.n); got != c.want {
			t.Errorf("Num(%d): %q, want %q", c.n, got, c.want)
		}
	}
}

// P7.1: Num against the library, each bit and each byte in its place too.
func TestNum(t *testing.T) {
	all := numbers()
	for bit := range 64 {
		all = append(all, int(uint64(1)<<bit), int(^(uint64(1) << bit)))
	}
	for place := range 8 {
		for x := range 256 {
			all = append(all, int(uint64(x)<<(8*place)))
		}
	}
	r := rand.New(rand.NewSource(19))
	for range 500 {
		all = append(all, int(r.Uint64()>>r.Intn(64)))
	}
	for _, n := range all {
		if got, want := Num(n), four(uint32(low(n))); got != want {
			t.Errorf("Num(%d): %q, want %q", n, got, want)
		}
	}
}

// P7.1: Text.
func TestText(t *testing.T) {
	for _, c := range []struct{ s, want string }{
		{"", "\x00\x00\x00\x00"},
		{"a", "\x00\x00\x00\x01a"},
		{"\x00", "\x00\x00\x00\x01\x00"},
		{"ab", "\x00\x00\x00\x02ab"},
		{"\u00fc", "\x00\x00\x00\x02\xc3\xbc"},
		{"\xc3\x28\xff", "\x00\x00\x00\x03\xc3\x28\xff"},
		{"\x00\x00\x00\x00", "\x00\x00\x00\x04\x00\x00\x00\x00"},
		{allBytes(), "\x00\x00\x01\x00" + allBytes()},
	} {
		same(t, "written out", Text(c.s), c.want)
	}
	for _, s := range texts() {
		same(t, "many", Text(s), four(uint32(len(s)))+s)
	}
	for n := range 600 {
		s := strings.Repeat("g", n)
		same(t, "each length", Text(s), four(uint32(n))+s)
	}
}

// P7.2: Num, at each edge written out.
func TestLeftNumEdges(t *testing.T) {
	for _, c := range []struct {
		what  string
		left  Left
		most  int
		want  int
		after Left
	}{
		{"the chapter's example", Left{"\x00\x00\x01\x02", false}, 258, 258, Left{"", false}},
		{"and more behind it", Left{"\x00\x00\x01\x02more", false}, 1000, 258, Left{"more", false}},
		{"one above most", Left{"\x00\x00\x01\x02more", false}, 257, 0, Left{"more", true}},
		{"nought, at most 0", Left{"\x00\x00\x00\x00", false}, 0, 0, Left{"", false}},
		{"1, at most 0", Left{"\x00\x00\x00\x01", false}, 0, 0, Left{"", true}},
		{"nought, at most below 0", Left{"\x00\x00\x00\x00", false}, -1, 0, Left{"", true}},
		{"nought, at most the least int", Left{"\x00\x00\x00\x00", false}, math.MinInt, 0, Left{"", true}},
		{"nought, at most the greatest int", Left{"\x00\x00\x00\x00", false}, math.MaxInt, 0, Left{"", false}},
		{"2^31 less 1", Left{"\x7f\xff\xff\xff", false}, math.MaxInt, 1<<31 - 1, Left{"", false}},
		{"2^31 less 1, at most just that", Left{"\x7f\xff\xff\xff", false}, 1<<31 - 1, 1<<31 - 1, Left{"", false}},
		{"2^31 less 1, at most one below", Left{"\x7f\xff\xff\xff", false}, 1<<31 - 2, 0, Left{"", true}},
		{"2^31", Left{"\x80\x00\x00\x00", false}, math.MaxInt, 0, Left{"", true}},
		{"2^31, at most just that", Left{"\x80\x00\x00\x00", false}, 1 << 31, 0, Left{"", true}},
		{"2^31 and 1, at most 1", Left{"\x80\x00\x00\x01", false}, 1, 0, Left{"", true}},
		{"2^32 less 1", Left{"\xff\xff\xff\xff", false}, math.MaxInt, 0, Left{"", true}},
		{"2^32 less 1, at most -1", Left{"\xff\xff\xff\xff", false}, -1, 0, Left{"", true}},
		{"no bytes", Left{"", false}, math.MaxInt, 0, Left{"", true}},
		{"one byte", Left{"\x01", false}, math.MaxInt, 0, Left{"\x01", true}},
		{"two bytes", Left{"\x01\x02", false}, math.MaxInt, 0, Left{"\x01\x02", true}},
		{"three bytes", Left{"\x01\x02\x03", false}, math.MaxInt, 0, Left{"\x01\x02\x03", true}},
		{"three noughts", Left{"\x00\x00\x00", false}, math.MaxInt, 0, Left{"\x00\x00\x00", true}},
		{"five bytes", Left{"\x01\x02\x03\x04\x05", false}, math.MaxInt, 0x01020304, Left{"\x05", false}},
		{"Bad ahead", Left{"\x00\x00\x01\x02", true}, math.MaxInt, 0, Left{"\x00\x00\x01\x02", true}},
		{"Bad ahead, and empty", Left{"", true}, math.MaxInt, 0, Left{"", true}},
	} {
		l := c.left
		if got := l.Num(c.most); got != c.want {
			t.Errorf("%s: %d", c.what, got)
		}
		stands(t, c.what, &l, c.after)
	}
}

// P7.2: Text, at each edge written out.
func TestLeftTextEdges(t *testing.T) {
	for _, c := range []struct {
		what  string
		left  Left
		most  int
		want  string
		after Left
	}{
		{"two bytes", Left{"\x00\x00\x00\x02ab", false}, 2, "ab", Left{"", false}},
		{"and more behind them", Left{"\x00\x00\x00\x02abc", false}, 1000, "ab", Left{"c", false}},
		{"one above most", Left{"\x00\x00\x00\x02ab", false}, 1, "", Left{"ab", true}},
		{"empty", Left{"\x00\x00\x00\x00", false}, 0, "", Left{"", false}},
		{"empty, and more behind it", Left{"\x00\x00\x00\x00ab", false}, 9, "", Left{"ab", false}},
		{"empty, at most below 0", Left{"\x00\x00\x00\x00", false}, -1, "", Left{"", true}},
		{"empty, at most the least int", Left{"\x00\x00\x00\x00", false}, math.MinInt, "", Left{"", true}},
		{"at most the greatest int", Left{"\x00\x00\x00\x02ab", false}, math.MaxInt, "ab", Left{"", false}},
		{"one byte, at most 0", Left{"\x00\x00\x00\x01a", false}, 0, "", Left{"a", true}},
		{"cut off by one", Left{"\x00\x00\x00\x02a", false}, 9, "", Left{"a", true}},
		{"cut off behind its number", Left{"\x00\x00\x00\x02", false}, 9, "", Left{"", true}},
		{"2^31 less 1 bytes that aren't there", Left{"\x7f\xff\xff\xffab", false}, math.MaxInt, "", Left{"ab", true}},
		{"2^31 bytes that aren't there", Left{"\x80\x00\x00\x00ab", false}, math.MaxInt, "", Left{"ab", true}},
		{"2^31 and 2 bytes, two there", Left{"\x80\x00\x00\x02ab", false}, math.MaxInt, "", Left{"ab", true}},
		{"2^32 less 1 bytes", Left{"\xff\xff\xff\xffab", false}, math.MaxInt, "", Left{"ab", true}},
		{"no bytes", Left{"", false}, 9, "", Left{"", true}},
		{"one byte", Left{"\x00", false}, 9, "", Left{"\x00", true}},
		{"two bytes of a number", Left{"\x00\x00", false}, 9, "", Left{"\x00\x00", true}},
		{"three bytes of a number", Left{"\x00\x00\x00", false}, 9, "", Left{"\x00\x00\x00", true}},
		{"Bad ahead", Left{"\x00\x00\x00\x02ab", true}, 9, "", Left{"\x00\x00\x00\x02ab", true}},
		{"Bad ahead, an empty text", Left{"\x00\x00\x00\x00", true}, 9, "", Left{"\x00\x00\x00\x00", true}},
		{"Bad ahead, and empty", Left{"", true}, 9, "", Left{"", true}},
	} {
		l := c.left
		same(t, c.what, l.Text(c.most), c.want)
		stands(t, c.what, &l, c.after)
	}
}

// P7.2: Done, of whatever a Left holds; to ask changes nothing.
func TestDone(t *testing.T) {
	for _, bad := range []bool{false, true} {
		for _, s := range texts() {
			l := Left{s, bad}
			if l.Done() != (s == "" && !bad) {
				t.Errorf("Done of %q, Bad %v: %v", short(s), bad, l.Done())
			}
			stands(t, "asked", &l, Left{s, bad})
		}
	}
}

// mosts are bounds at n and beside it, and the ends of the type.
func mosts(n int) []int {
	return []int{n - 1, n, n + 1, 0, -1, 1<<31 - 1, 1 << 31, 1<<32 - 1, math.MinInt, math.MaxInt}
}

// P7.2: Num, of numbers at all edges, by bounds at all edges, with more bytes
// behind it and with fewer.
func TestLeftNum(t *testing.T) {
	for _, n := range numbers() {
		raw := four(uint32(uint64(n)))
		for _, most := range mosts(int(uint32(uint64(n)))) {
			for count := range 5 {
				readsNum(t, "fewer bytes", &Left{S: raw[:count]}, most)
			}
			for _, more := range []string{"", "\x00", "a", raw, allBytes()} {
				readsNum(t, "more bytes", &Left{S: raw + more}, most)
				readsNum(t, "Bad ahead", &Left{S: raw + more, Bad: true}, most)
			}
		}
	}
	for place := range 4 {
		for x := range 256 {
			readsNum(t, "each byte", &Left{S: four(uint32(x) << (8 * place))}, math.MaxInt)
			readsNum(t, "each byte", &Left{S: four(^(uint32(x) << (8 * place)))}, math.MaxInt)
		}
	}
}

// P7.2: Text, by bounds at all edges, with more bytes behind it, and cut off
// wherever that may be.
func TestLeftText(t *testing.T) {
	for _, s := range texts() {
		raw := four(uint32(len(s))) + s
		for _, most := range mosts(len(s)) {
			for _, more := range []string{"", "\x00", "a", raw, allBytes()} {
				readsText(t, "more bytes", &Left{S: raw + more}, most)
				readsText(t, "Bad ahead", &Left{S: raw + more, Bad: true}, most)
			}
			for count := range min(len(raw), 300) {
				readsText(t, "cut off", &Left{S: raw[:count]}, most)
			}
			readsText(t, "cut off by one", &Left{S: raw[:len(raw)-1]}, most)
		}
	}
}

// P7.2: numbers and texts one behind the other: each takes off what it reads,
// and Done holds behind the last one alone.
func TestOneBehindTheOther(t *testing.T) {
	l := &Left{S: "\x00\x00\x01\x02" + "\x00\x00\x00\x02ab" + "\x00\x00\x00\x00" + "\x00\x00\x00\x00" + "\x7f\xff\xff\xff" + "\x00\x00\x00\x01c"}
	stands(t, "at first", l, Left{S: l.S})
	if n := l.Num(300); n != 258 {
		t.Errorf("the first: %d", n)
	}
	stands(t, "behind one", l, Left{S: "\x00\x00\x00\x02ab\x00\x00\x00\x00\x00\x00\x00\x00\x7f\xff\xff\xff\x00\x00\x00\x01c"})
	same(t, "the second", l.Text(2), "ab")
	stands(t, "behind two", l, Left{S: "\x00\x00\x00\x00\x00\x00\x00\x00\x7f\xff\xff\xff\x00\x00\x00\x01c"})
	same(t, "the third", l.Text(2), "")
	if n := l.Num(0); n != 0 {
		t.Errorf("the fourth: %d", n)
	}
	if n := l.Num(math.MaxInt); n != 1<<31-1 {
		t.Errorf("the fifth: %d", n)
	}
	stands(t, "behind five", l, Left{S: "\x00\x00\x00\x01c"})
	same(t, "the last", l.Text(1), "c")
	stands(t, "behind all", l, Left{})
	if n := l.Num(9); n != 0 {
		t.Errorf("none behind the last: %d", n)
	}
	stands(t, "behind the end", l, Left{Bad: true})
}

// P7.2: what is Bad stays Bad, whatever it is that made it so and whatever is
// left, and answers nothing from then on.
func TestStaysBad(t *testing.T) {
	good := "\x00\x00\x00\x05" + "\x00\x00\x00\x02ab" + "\x00\x00\x00\x00"
	for what, spoil := range map[string]func(*Left){
		"a number above most":      func(l *Left) { l.S = "\x00\x00\x00\x09" + good; l.Num(8) },
		"a number of 2^31":         func(l *Left) { l.S = "\x80\x00\x00\x00" + good; l.Num(math.MaxInt) },
		"a text above most":        func(l *Left) { l.S = "\x00\x00\x00\x02ab" + good; l.Text(1) },
		"a text of too many bytes": func(l *Left) { l.S = "\x00\x00\x01\x00" + good; l.Text(1000) },
		"no number":                func(l *Left) { l.S = "\x00\x00\x00"; l.Num(8) },
		"nothing":                  func(l *Left) { l.Text(8) },
		"it was":                   func(l *Left) { l.S, l.Bad = good, true },
		"it was, and is empty":     func(l *Left) { l.Bad = true },
	} {
		l := &Left{}
		spoil(l)
		rest := l.S
		for range 3 {
			stands(t, what, l, Left{rest, true})
			if n := l.Num(math.MaxInt); n != 0 {
				t.Errorf("%s, then a number: %d", what, n)
			}
			stands(t, what+", then a number", l, Left{rest, true})
			same(t, what+", then a text", l.Text(math.MaxInt), "")
		}
		// More to read does not make it good.
		l.S = good
		if n := l.Num(9); n != 0 || l.Text(9) != "" {
			t.Errorf("%s, then more: read", what)
		}
		stands(t, what+", then more", l, Left{good, true})
	}
}

// P7.2: S is what was left of a text of many kinds of things, cut off at each
// place: read up to there, Bad from there on.
func TestCutOffAnywhere(t *testing.T) {
	whole := Num(7) + Text("seven") + Num(0) + Text("") + Text(allBytes()) + Num(1<<31-1)
	for count := range len(whole) + 1 {
		l := &Left{S: whole[:count]}
		readsNum(t, "7", l, 9)
		readsText(t, "seven", l, 9)
		readsNum(t, "0", l, 0)
		readsText(t, "empty", l, 0)
		readsText(t, "all bytes", l, 256)
		readsNum(t, "the greatest", l, math.MaxInt)
		if l.Done() != (count == len(whole)) {
			t.Errorf("cut off behind %d: Done is %v", count, l.Done())
		}
	}
}

// P7.3: there and back, alone and one behind the other.
func TestThereAndBack(t *testing.T) {
	var laid strings.Builder
	for _, n := range numbers() {
		l := &Left{S: Num(n)}
		if got := l.Num(math.MaxInt); got != low(n) {
			t.Errorf("%d, there and back: %d", n, got)
		}
		stands(t, "a number", l, Left{})
		laid.WriteString(Num(n))
		for _, s := range texts() {
			laid.WriteString(Text(s))
		}
	}
	for _, s := range texts() {
		l := &Left{S: Text(s)}
		same(t, "there and back", l.Text(len(s)), s)
		stands(t, "a text", l, Left{})
	}
	l := &Left{S: laid.String()}
	for _, n := range numbers() {
		if got := l.Num(low(n)); got != low(n) {
			t.Errorf("%d, there and back among others: %d", n, got)
		}
		for _, s := range texts() {
			same(t, "there and back among others", l.Text(len(s)), s)
		}
	}
	stands(t, "all", l, Left{})
}

// P7.3: back and there: what was read, laid again, is what stood there.
func TestBackAndThere(t *testing.T) {
	r := rand.New(rand.NewSource(20))
	for range 2000 {
		raw := []byte(four(uint32(r.Intn(9))) + "abcdefgh")[:r.Intn(13)]
		if len(raw) > 0 && r.Intn(4) == 0 {
			raw[r.Intn(len(raw))] = byte(r.Intn(256))
		}
		s := string(raw)
		l := &Left{S: s}
		if n := l.Num(math.MaxInt); !l.Bad {
			same(t, "a number", Num(n)+l.S, s)
		}
		l = &Left{S: s}
		if text := l.Text(math.MaxInt); !l.Bad {
			same(t, "a text", Text(text)+l.S, s)
		}
	}
}

// Rule 3: Lefts of one text do not see one another, nor does what was read.
func TestEachItsOwn(t *testing.T) {
	whole := Text("ab") + Text("cd")
	one, other := &Left{S: whole}, &Left{S: whole}
	first := one.Text(9)
	one.Num(0)
	stands(t, "the other one", other, Left{S: whole})
	same(t, "read by the other one", other.Text(9), "ab")
	same(t, "what was read first", first, "ab")
	same(t, "what both have read", whole, "\x00\x00\x00\x02ab\x00\x00\x00\x02cd")
}

// P1: no Left at all is none to read from, and no call panics at it.
func TestNoLeft(t *testing.T) {
	var none *Left
	for _, most := range mosts(0) {
		if n := none.Num(most); n != 0 {
			t.Errorf("a number of no Left: %d", n)
		}
		same(t, "a text of no Left", none.Text(most), "")
	}
	if none.Done() {
		t.Error("no Left is done")
	}
}

// Rules 4 and 6: the same arguments come to the same, in whatever goroutine.
func TestManyAtOnce(t *testing.T) {
	whole := Num(258) + Text(allBytes())
	var workers sync.WaitGroup
	for range 8 {
		workers.Go(func() {
			for range 50 {
				l := &Left{S: whole}
				readsNum(t, "at once", l, 258)
				readsText(t, "at once", l, 256)
				same(t, "at once", Num(258)+Text(allBytes()), whole)
			}
		})
	}
	workers.Wait()
}

// P1: no call panics, at any arguments; each answer is right at all of them.
func FuzzAll(f *testing.F) {
	for _, n := range numbers() {
		f.Add(n, "\x00\x00\x01\x02\x00\x00\x00\x02ab", false)
		f.Add(n, four(uint32(uint64(n)))+"abc", false)
	}
	for _, s := range []string{"", "\x00", "\x00\x00\x00", "\x00\x00\x00\x00", "\x00\x00\x00\x02a", "\x80\x00\x00\x00", "\xff\xff\xff\xff\xff"} {
		f.Add(1, s, false)
		f.Add(math.MaxInt, s, true)
	}
	f.Fuzz(func(t *testing.T, n int, s string, bad bool) {
		same(t, "Num", Num(n), four(uint32(low(n))))
		same(t, "Text", Text(s), four(uint32(len(s)))+s)
		numFirst, textFirst := &Left{s, bad}, &Left{s, bad}
		readsNum(t, "a number first", numFirst, n)
		readsText(t, "a text behind it", numFirst, n)
		readsText(t, "a text first", textFirst, n)
		readsNum(t, "a number behind it", textFirst, n)
		l := &Left{S: Text(s) + Num(n)}
		same(t, "there and back", l.Text(len(s)), s)
		if got := l.Num(math.MaxInt); got != low(n) || !l.Done() {
			t.Errorf("%d, there and back: %d", n, got)
		}
	})
}
