package secret

import (
	"math"
	"math/big"
	"math/rand"
	"slices"
	"strings"
	"sync"
	"testing"

	"lodge/api"
	"lodge/group"
)

// great is the great group's prime as chapter 5 writes it.
const great = "FFFFFFFFFFFFFFFF C90FDAA22168C234 C4C6628B80DC1CD1 29024E088A67CC74" +
	" 020BBEA63B139B22 514A08798E3404DD EF9519B3CD3A431B 302B0A6DF25F1437" +
	" 4FE1356D6D51C245 E485B576625E7EC6 F44C42E9A637ED6B 0BFF5CB6F406B7ED" +
	" EE386BFB5A899FA5 AE9F24117C4B1FE6 49286651ECE45B3D C2007CB8A163BF05" +
	" 98DA48361C55D39A 69163FA8FD24CF5F 83655D23DCA3AD96 1C62F356208552BB" +
	" 9ED529077096966D 670C354E4ABC9804 F1746C08CA237327 FFFFFFFFFFFFFFFF"

// groups are those that there are.
func groups() []int { return []int{api.GroupTiny, api.GroupSmall, api.GroupGreat} }

// others are numbers that tell no group.
func others() []int {
	return []int{
		math.MinInt, math.MinInt + 1, math.MinInt32, -256, -5, -3, -2, -1,
		2, 3, 4, 6, 7, 8, 9, 10, 11, 23, 255, 256, 257, 261, 1019, 2039, 1536,
		1 << 16, 1<<16 + 1, 1<<16 + 5, 1 << 32, 1<<32 + 1, 1<<32 + 5,
		math.MaxInt32, math.MaxInt - 1, math.MaxInt,
	}
}

// prime is a group's prime by none of the project's own means; order is its
// order.
func prime(kind int) *big.Int {
	switch kind {
	case api.GroupTiny:
		return number(23)
	case api.GroupSmall:
		return number(2039)
	}
	p, ok := new(big.Int).SetString(strings.ReplaceAll(great, " ", ""), 16)
	if !ok {
		panic("no number: " + great)
	}
	return p
}

func order(kind int) *big.Int { return new(big.Int).Rsh(prime(kind), 1) }

func number(n int64) *big.Int { return big.NewInt(n) }

func plus(a *big.Int, b int64) *big.Int { return new(big.Int).Add(a, number(b)) }

func value(s string) *big.Int { return new(big.Int).SetBytes([]byte(s)) }

// text is a number's bytes: none of 0.
func text(x *big.Int) string { return string(x.Bytes()) }

func textOf(n int) string { return text(number(int64(n))) }

// may is what Right is to answer, by math/big's means alone.
func may(kind int, s string) bool {
	if !slices.Contains(groups(), kind) || len(s) > 400 || strings.HasPrefix(s, "\x00") {
		return false
	}
	return value(s).Cmp(number(2)) >= 0 && value(s).Cmp(order(kind)) < 0
}

// reduced is what Reduce is to answer, by math/big's means alone.
func reduced(kind int, s string) string {
	if !slices.Contains(groups(), kind) {
		return ""
	}
	rest := new(big.Int).Mod(value(s), plus(order(kind), -2))
	return text(plus(rest, 2))
}

// raised is what x to the power of s leaves, by math/big's means alone.
func raised(kind int, x *big.Int, s string) string {
	if !slices.Contains(groups(), kind) {
		return ""
	}
	return text(new(big.Int).Exp(x, value(s), prime(kind)))
}

func agreed(kind int, blind, s string) string {
	return reduced(kind, raised(kind, value(blind), s))
}

// right tells where Right answers otherwise.
func right(t *testing.T, what string, kind int, s string, want bool) {
	t.Helper()
	if got := Right(kind, s); got != want {
		t.Errorf("%s: of group %d, %q: %v", what, kind, s, got)
	}
}

// same tells where two texts are not the same.
func same(t *testing.T, what, got, want string) {
	t.Helper()
	if got != want {
		t.Errorf("%s: %q, want %q", what, got, want)
	}
}

// holds holds all calls at s against math/big: as a secret, reduced, as a
// power of 2, and as one of blind.
func holds(t *testing.T, kind int, blind, s string) {
	t.Helper()
	right(t, "right", kind, s, may(kind, s))
	same(t, "reduced", Reduce(kind, s), reduced(kind, s))
	same(t, "blinded", Blind(kind, s), raised(kind, number(2), s))
	same(t, "agreed", Agree(kind, blind, s), agreed(kind, blind, s))
}

// drawn are secrets of a group, from a fixed seed.
func drawn(kind, count int) []string {
	r := rand.New(rand.NewSource(17))
	all := make([]string, count)
	for i := range all {
		all[i] = text(plus(new(big.Int).Rand(r, plus(order(kind), -2)), 2))
	}
	return all
}

// made are texts from a fixed seed, many of their bytes at the ends of the
// type: some of them are not whole.
func made(count, most int) []string {
	r := rand.New(rand.NewSource(18))
	all := make([]string, count)
	for i := range all {
		raw := make([]byte, r.Intn(most))
		for j := range raw {
			raw[j] = []byte{0, 1, 2, 255, byte(r.Intn(256))}[r.Intn(5)]
		}
		all[i] = string(raw)
	}
	return all
}

// P6.1: the examples.
func TestExamples(t *testing.T) {
	same(t, "5's blinded key", Blind(0, "\x05"), "\x09")
	for x, want := range []string{
		"\x02", "\x03", "\x04", "\x05", "\x06", "\x07", "\x08", "\x09", "\x0a",
		"\x02", "\x03", "\x04",
	} {
		same(t, "reduced", Reduce(0, textOf(x)), want)
	}
	for e, want := range []string{
		"\x01", "\x02", "\x04", "\x08", "\x10", "\x09", "\x12", "\x0d", "\x03", "\x06", "\x0c",
		"\x01", "\x02",
	} {
		same(t, "blinded", Blind(0, textOf(e)), want)
	}
	// 9 to the power of 3 leaves 16 of 23, which counts as 9; so does 8, 3's
	// blinded key, to the power of 5.
	same(t, "of 3 and 5", Agree(0, "\x09", "\x03"), "\x09")
	same(t, "of 5 and 3", Agree(0, "\x08", "\x05"), "\x09")
}

// P6.1: each number from 0 to above the order, of the tiny and the small
// group: counted up and multiplied one by one.
func TestEachNumber(t *testing.T) {
	for kind, p := range map[int]int{api.GroupTiny: 23, api.GroupSmall: 2039} {
		q := (p - 1) / 2
		counts, key := 2, 1
		for x := range 3*p + 300 {
			s := textOf(x)
			right(t, "each", kind, s, x >= 2 && x < q)
			same(t, "each, reduced", Reduce(kind, s), textOf(counts))
			same(t, "each, blinded", Blind(kind, s), textOf(key))
			counts++
			if counts == q {
				counts = 2
			}
			key = key * 2 % p
		}
	}
}

// P6.1: each power of each number of the tiny group, from 0 to above the
// prime, multiplied one by one; 0 to the power of 0 is 1.
func TestEachPower(t *testing.T) {
	for base := range 60 {
		power := 1
		for e := range 60 {
			got := Agree(api.GroupTiny, textOf(base), textOf(e))
			same(t, "each power", got, textOf(2+power%9))
			power = power * base % 23
		}
	}
}

// P6.1: some bases of the small group, each with all powers to above the
// prime.
func TestPowersOfSmall(t *testing.T) {
	for _, base := range []int{0, 1, 2, 3, 5, 1018, 1019, 2037, 2038, 2039, 2040, 5000} {
		power := 1
		for e := range 2100 {
			got := Agree(api.GroupSmall, textOf(base), textOf(e))
			same(t, "each power", got, textOf(2+power%1017))
			power = power * base % 2039
		}
	}
}

// P6.1: the edges that the chapter names, as secrets.
func TestRightEdges(t *testing.T) {
	for _, kind := range groups() {
		q := order(kind)
		right(t, "empty", kind, "", false)
		right(t, "0, not whole", kind, "\x00", false)
		right(t, "1", kind, "\x01", false)
		right(t, "2", kind, "\x02", true)
		right(t, "3", kind, "\x03", true)
		right(t, "the order less 2", kind, text(plus(q, -2)), true)
		right(t, "the order less 1", kind, text(plus(q, -1)), true)
		right(t, "the order", kind, text(q), false)
		right(t, "the order and 1", kind, text(plus(q, 1)), false)
		right(t, "the order and 2", kind, text(plus(q, 2)), false)
		right(t, "twice the order and 2", kind, text(plus(prime(kind), 1)), false)
		right(t, "the prime less 1", kind, text(plus(prime(kind), -1)), false)
		right(t, "the prime and 2", kind, text(plus(prime(kind), 2)), false)
		for _, noughts := range []int{1, 2, 7, 8, 191, 192, 399, 400} {
			ahead := strings.Repeat("\x00", noughts)
			right(t, "noughts", kind, ahead, false)
			right(t, "noughts ahead", kind, ahead+"\x02", false)
			right(t, "noughts ahead", kind, ahead+text(plus(q, -1)), false)
		}
	}
}

// P6.1: texts that are as long as may be, and longer: none is below an order.
func TestRightLong(t *testing.T) {
	for _, kind := range groups() {
		for _, length := range []int{192, 193, 399, 400, 401, 402, 1000, 1 << 20} {
			right(t, "all bits", kind, strings.Repeat("\xff", length), false)
			right(t, "one bit", kind, "\x01"+strings.Repeat("\x00", length-1), kind == api.GroupGreat && length == 192)
			right(t, "2, noughts ahead", kind, strings.Repeat("\x00", length-1)+"\x02", false)
		}
	}
	// The order has 1535 bits.
	right(t, "seven bits on top", api.GroupGreat, "\x7f"+strings.Repeat("\x00", 191), true)
	right(t, "eight bits on top", api.GroupGreat, "\x80"+strings.Repeat("\x00", 191), false)
}

// P6.1: edges, reduced.
func TestReduceEdges(t *testing.T) {
	for _, kind := range groups() {
		q := order(kind)
		same(t, "empty", Reduce(kind, ""), "\x02")
		same(t, "0, not whole", Reduce(kind, "\x00"), "\x02")
		same(t, "1", Reduce(kind, "\x01"), "\x03")
		same(t, "the order less 3", Reduce(kind, text(plus(q, -3))), text(plus(q, -1)))
		same(t, "the order less 2", Reduce(kind, text(plus(q, -2))), "\x02")
		same(t, "the order less 1", Reduce(kind, text(plus(q, -1))), "\x03")
		same(t, "the order", Reduce(kind, text(q)), "\x04")
		same(t, "the order and 1", Reduce(kind, text(plus(q, 1))), "\x05")
		count := plus(q, -2)
		for _, times := range []int64{2, 3, 255, 256, math.MaxInt64} {
			far := new(big.Int).Mul(count, number(times))
			same(t, "many times", Reduce(kind, text(far)), "\x02")
			same(t, "many times, and 1", Reduce(kind, text(plus(far, 1))), "\x03")
			same(t, "many times, less 1", Reduce(kind, text(plus(far, -1))), text(plus(q, -1)))
		}
		far := new(big.Int).Mul(count, count)
		same(t, "as many times as there are", Reduce(kind, text(far)), "\x02")
	}
}

// P6.1: edges, as powers: what comes round is the order.
func TestBlindEdges(t *testing.T) {
	for _, kind := range groups() {
		p, q := prime(kind), order(kind)
		half := text(plus(q, 1)) // half of the prime and 1: twice it leaves 1
		same(t, "empty", Blind(kind, ""), "\x01")
		same(t, "0, not whole", Blind(kind, "\x00"), "\x01")
		same(t, "1", Blind(kind, "\x01"), "\x02")
		same(t, "2", Blind(kind, "\x02"), "\x04")
		same(t, "the order less 1", Blind(kind, text(plus(q, -1))), half)
		same(t, "the order", Blind(kind, text(q)), "\x01")
		same(t, "the order and 1", Blind(kind, text(plus(q, 1))), "\x02")
		same(t, "the prime less 2", Blind(kind, text(plus(p, -2))), half)
		same(t, "the prime less 1", Blind(kind, text(plus(p, -1))), "\x01")
		same(t, "the prime", Blind(kind, text(p)), "\x02")
	}
}

// P6.1: whatever is agreed with: the empty text, 1, the prime less 1, and what
// is not below the prime.
func TestAgreeEdges(t *testing.T) {
	for _, kind := range groups() {
		p, q := prime(kind), order(kind)
		for _, e := range []string{"", "\x00", "\x01", "\x02", "\x03", "\x00\x03", text(plus(q, -1)), text(q), text(plus(p, -1))} {
			for _, x := range []*big.Int{number(0), number(1), number(2), plus(p, -2), plus(p, -1), p, plus(p, 1), new(big.Int).Mul(p, p), plus(q, -2)} {
				same(t, "edges", Agree(kind, text(x), e), agreed(kind, text(x), e))
				same(t, "edges, not whole", Agree(kind, "\x00"+text(x), e), agreed(kind, text(x), e))
			}
		}
		same(t, "to the power of 0", Agree(kind, "\x05", ""), "\x03")
		same(t, "0 to the power of 0", Agree(kind, "", ""), "\x03")
		same(t, "0", Agree(kind, "", "\x02"), "\x02")
		same(t, "0 to the power of the prime less 1", Agree(kind, "", text(plus(p, -1))), "\x02")
		same(t, "1", Agree(kind, "\x01", "\x07"), "\x03")
		same(t, "itself", Agree(kind, text(plus(q, -3)), "\x01"), text(plus(q, -1)))
		same(t, "comes to the order less 2", Agree(kind, text(plus(q, -2)), "\x01"), "\x02")
	}
}

// P6.1: of no group there is no secret, and nothing is answered.
func TestNoGroup(t *testing.T) {
	all := []string{"", "\x00", "\x01", "\x02", "\x05", "\x00\x02", "\x0a", strings.Repeat("\x07", 192), strings.Repeat("\x07", 401)}
	for _, kind := range others() {
		for _, s := range all {
			right(t, "no group", kind, s, false)
			same(t, "no group", Reduce(kind, s), "")
			same(t, "no group", Blind(kind, s), "")
			for _, blind := range all {
				same(t, "no group", Agree(kind, blind, s), "")
			}
		}
	}
	for kind := -3000; kind < 3000; kind++ {
		there := slices.Contains(groups(), kind)
		right(t, "each group", kind, "\x02", there)
		if got := Reduce(kind, "\x02"); (got == "\x04") != there || (got == "") == there {
			t.Errorf("group %d: reduced %q", kind, got)
		}
		if got := Blind(kind, "\x02"); (got == "\x04") != there || (got == "") == there {
			t.Errorf("group %d: blinded %q", kind, got)
		}
	}
}

// P6.1: a text that is not whole is none's secret, but it is a number all the
// same, and what is answered is whole.
func TestNotWhole(t *testing.T) {
	for _, kind := range groups() {
		for _, s := range append(drawn(kind, 6), "", "\x01", "\x02", "\x05", text(order(kind))) {
			for _, noughts := range []int{1, 2, 8, 200, 401} {
				longer := strings.Repeat("\x00", noughts) + s
				right(t, "not whole", kind, longer, false)
				same(t, "not whole", Reduce(kind, longer), Reduce(kind, s))
				same(t, "not whole", Blind(kind, longer), Blind(kind, s))
				same(t, "not whole", Agree(kind, longer, "\x03"), Agree(kind, s, "\x03"))
				same(t, "not whole", Agree(kind, "\x03", longer), Agree(kind, "\x03", s))
			}
		}
	}
}

// P6.1: ordinary texts and odd ones, of up to 60 bytes.
func TestMadeTexts(t *testing.T) {
	all := made(300, 60)
	for i, s := range all {
		blind := all[(i+7)%len(all)]
		for _, kind := range []int{api.GroupTiny, api.GroupSmall} {
			holds(t, kind, blind, s)
		}
		if i%6 == 0 {
			holds(t, api.GroupGreat, blind, s)
		}
	}
}

// P6.1, P1: texts of many bytes, reduced and as powers.
func TestManyBytes(t *testing.T) {
	for _, length := range []int{191, 192, 193, 399, 400, 401, 1000} {
		for _, s := range []string{
			strings.Repeat("\xff", length),
			"\x01" + strings.Repeat("\x00", length-1),
			strings.Repeat("\x00", length-2) + "\x01\x02",
			strings.Repeat("many bytes ", length)[:length],
		} {
			for _, kind := range groups() {
				holds(t, kind, strings.Repeat("\x7e\x81", length), s)
			}
		}
	}
	far := strings.Repeat("\xa5\x00\x17", 10000)
	for _, kind := range []int{api.GroupTiny, api.GroupSmall} {
		holds(t, kind, far, far)
	}
	same(t, "many bytes, reduced", Reduce(api.GroupGreat, far), reduced(api.GroupGreat, far))
	same(t, "many bytes, as a base", Agree(api.GroupGreat, far, "\x07"), agreed(api.GroupGreat, far, "\x07"))
}

// P6.1: the great group's secrets.
func TestGreat(t *testing.T) {
	all := drawn(api.GroupGreat, 12)
	for i, s := range all {
		right(t, "drawn", api.GroupGreat, s, true)
		holds(t, api.GroupGreat, all[(i+1)%len(all)], s)
	}
	for bits := uint(0); bits < 1600; bits += 61 {
		s := text(new(big.Int).Lsh(number(1), bits))
		right(t, "a power of 2", api.GroupGreat, s, bits > 0 && bits < 1535)
	}
	same(t, "before it comes round", Blind(api.GroupGreat, "\x05\xff"), "\x80"+strings.Repeat("\x00", 191))
	// 2^1536 less the prime.
	over := new(big.Int).Sub(new(big.Int).Lsh(number(1), 1536), prime(api.GroupGreat))
	same(t, "comes round", Blind(api.GroupGreat, "\x06\x00"), text(over))
}

// agree tells where two who have these secrets come to another key, or to one
// that is no secret.
func agree(t *testing.T, kind int, x, y string) {
	t.Helper()
	one := Agree(kind, Blind(kind, x), y)
	other := Agree(kind, Blind(kind, y), x)
	same(t, "from the other side", one, other)
	right(t, "what is agreed on", kind, one, true)
	product := new(big.Int).Mul(value(x), value(y))
	same(t, "agreed by the product", one, reduced(kind, raised(kind, number(2), text(product))))
}

// P6.2: two agree, from whichever side; that is a secret. Of the tiny group
// all pairs, of the small one many, of the great one some.
func TestTwoAgree(t *testing.T) {
	for x := 2; x < 11; x++ {
		for y := 2; y < 11; y++ {
			agree(t, api.GroupTiny, textOf(x), textOf(y))
		}
	}
	for x := 2; x < 1019; x++ {
		for _, y := range []int{2, 3, x, 1020 - x, 1017, 1018, (x*x + 7) % 1019} {
			agree(t, api.GroupSmall, textOf(x), textOf(max(2, y)))
		}
	}
	all := append(drawn(api.GroupGreat, 3), "\x02", "\x05abcdefgh", text(plus(order(api.GroupGreat), -1)))
	for _, x := range all {
		for _, y := range all {
			agree(t, api.GroupGreat, x, y)
		}
	}
}

// P6.2: so do more than two, key upon key, as the halves of a tree do.
func TestFourAgree(t *testing.T) {
	for _, kind := range groups() {
		all := drawn(kind, 4)
		left := Agree(kind, Blind(kind, all[0]), all[1])
		far := Agree(kind, Blind(kind, all[3]), all[2])
		agree(t, kind, left, far)
		agree(t, kind, far, all[0])
	}
}

// P6.2: whatever is agreed with, what comes of it is a secret, and so is
// whatever is reduced.
func TestAlwaysASecret(t *testing.T) {
	all := append(made(60, 250), "", "\x00", "\x01", strings.Repeat("\xff", 401))
	for i, s := range all {
		blind := all[(i+11)%len(all)]
		for _, kind := range groups() {
			right(t, "reduced", kind, Reduce(kind, s), true)
			if kind != api.GroupGreat || i%5 == 0 {
				right(t, "agreed on", kind, Agree(kind, blind, s), true)
			}
		}
	}
}

// P6.2: blinded keys of secrets are elements, each secret's its own.
func TestBlindedAreElements(t *testing.T) {
	for _, kind := range []int{api.GroupTiny, api.GroupSmall} {
		met := map[string]int{}
		for x := 2; x < int(order(kind).Int64()); x++ {
			key := Blind(kind, textOf(x))
			met[key]++
			if !group.Element(kind, key) || met[key] > 1 {
				t.Errorf("group %d: %d's: %q, met %d times", kind, x, key, met[key])
			}
		}
	}
	q := order(api.GroupGreat)
	for _, s := range append(drawn(api.GroupGreat, 8), "\x02", "\x03", text(plus(q, -2)), text(plus(q, -1))) {
		if key := Blind(api.GroupGreat, s); !group.Element(api.GroupGreat, key) {
			t.Errorf("%q's: %q", s, key)
		}
	}
	// 1 is no element: the order is no secret.
	for _, kind := range groups() {
		if group.Element(kind, Blind(kind, text(order(kind)))) {
			t.Errorf("group %d: the order's is an element", kind)
		}
	}
}

// Rules 4 and 6: the same arguments come to the same, in whatever goroutine.
func TestManyAtOnce(t *testing.T) {
	var workers sync.WaitGroup
	for range 8 {
		workers.Go(func() {
			for _, kind := range append(groups(), -1, 2, 9) {
				for _, s := range []string{"", "\x00\x02", "\x02", "\x05", text(order(api.GroupGreat))} {
					holds(t, kind, "\x09", s)
				}
			}
		})
	}
	workers.Wait()
}

// P1: no call panics, at any arguments; each answer is right at all of them.
func FuzzAll(f *testing.F) {
	for _, kind := range []int{0, 1, 5, 9, -1, math.MinInt, math.MaxInt} {
		for _, s := range []string{"", "\x00", "\x01", "\x02", "\x00\x02", "\x09", "\x0a", "\x0b", "\x03\xf9", "\x03\xfa", "\x03\xfb", "\x07\xf7"} {
			f.Add(kind, "\x09", s)
			f.Add(kind, s, "\x05")
		}
		f.Add(kind, text(prime(5)), text(order(5)))
		f.Add(kind, strings.Repeat("\xff", 401), strings.Repeat("\xff", 401))
	}
	f.Fuzz(func(t *testing.T, kind int, blind, s string) {
		holds(t, kind, blind, s)
		there := slices.Contains(groups(), kind)
		right(t, "reduced", kind, Reduce(kind, s), there)
		right(t, "agreed on", kind, Agree(kind, blind, s), there)
		same(t, "from the other side", Agree(kind, Blind(kind, blind), s), Agree(kind, Blind(kind, s), blind))
	})
}
