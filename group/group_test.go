package group

import (
	"math"
	"math/big"
	"math/rand"
	"slices"
	"strings"
	"sync"
	"testing"

	"lodge/api"
)

const top = math.MaxUint64

// great is the great group's prime as the chapter writes it.
const great = "FFFFFFFFFFFFFFFF C90FDAA22168C234 C4C6628B80DC1CD1 29024E088A67CC74" +
	" 020BBEA63B139B22 514A08798E3404DD EF9519B3CD3A431B 302B0A6DF25F1437" +
	" 4FE1356D6D51C245 E485B576625E7EC6 F44C42E9A637ED6B 0BFF5CB6F406B7ED" +
	" EE386BFB5A899FA5 AE9F24117C4B1FE6 49286651ECE45B3D C2007CB8A163BF05" +
	" 98DA48361C55D39A 69163FA8FD24CF5F 83655D23DCA3AD96 1C62F356208552BB" +
	" 9ED529077096966D 670C354E4ABC9804 F1746C08CA237327 FFFFFFFFFFFFFFFF"

// groups are those that there are.
func groups() []int { return []int{api.GroupTiny, api.GroupSmall, api.GroupGreat} }

// others are numbers that tell no group.
func others() []int {
	return []int{
		math.MinInt, math.MinInt + 1, math.MinInt32, -256, -5, -3, -2, -1,
		2, 3, 4, 6, 7, 8, 9, 10, 14, 16, 23, 255, 256, 257, 261, 2039, 1536, 3526,
		1 << 16, 1<<16 + 1, 1<<16 + 5, 1 << 32, 1<<32 + 1, 1<<32 + 5,
		math.MaxInt32, math.MaxInt - 1, math.MaxInt,
	}
}

// prime is a group's prime by none of the project's own means.
func prime(group int) *big.Int {
	switch group {
	case api.GroupTiny:
		return big.NewInt(23)
	case api.GroupSmall:
		return big.NewInt(2039)
	}
	p, ok := new(big.Int).SetString(strings.ReplaceAll(great, " ", ""), 16)
	if !ok {
		panic("no number: " + great)
	}
	return p
}

// value is a as math/big has it: put together by sums and shifts, by none of
// the project's own means.
func value(a []uint64) *big.Int {
	v := new(big.Int)
	for _, limb := range slices.Backward(a) {
		v.Lsh(v, 64).Add(v, new(big.Int).SetUint64(limb))
	}
	return v
}

func number(n int64) *big.Int { return big.NewInt(n) }

func power(of, to int64) *big.Int { return new(big.Int).Exp(number(of), number(to), nil) }

func plus(a *big.Int, b int64) *big.Int { return new(big.Int).Add(a, number(b)) }

// is tells where got is another number than want, or has a nought on top.
func is(t *testing.T, what string, got []uint64, want *big.Int) {
	t.Helper()
	if len(got) > 0 && got[len(got)-1] == 0 {
		t.Errorf("%s: a nought on top of %v", what, got)
	}
	if value(got).Cmp(want) != 0 {
		t.Errorf("%s: %v, want %v", what, got, want)
	}
}

// element tells where Element answers otherwise.
func element(t *testing.T, what string, group int, s string, want bool) {
	t.Helper()
	if got := Element(group, s); got != want {
		t.Errorf("%s: of group %d, %q: %v", what, group, s, got)
	}
}

// square tells whether x, which is above 0 and below the group's prime, is a
// square: by math/big's symbols, not by a power.
func square(group int, x *big.Int) bool { return big.Jacobi(x, prime(group)) == 1 }

// belongs is what Element is to answer, by math/big's means alone.
func belongs(group int, s string) bool {
	if !slices.Contains(groups(), group) || len(s) > 400 || strings.HasPrefix(s, "\x00") {
		return false
	}
	x := new(big.Int).SetBytes([]byte(s))
	return x.Cmp(number(1)) > 0 && x.Cmp(prime(group)) < 0 && square(group, x)
}

// below are numbers above 0 and below the group's prime, from a fixed seed.
func below(group, count int) []*big.Int {
	r := rand.New(rand.NewSource(11))
	all := make([]*big.Int, count)
	for i := range all {
		x := new(big.Int).Rand(r, plus(prime(group), -1))
		all[i] = x.Add(x, number(1))
	}
	return all
}

// P5.1: there are three groups.
func TestRight(t *testing.T) {
	for _, group := range groups() {
		if !Right(group) {
			t.Errorf("group %d: none", group)
		}
	}
	for _, group := range others() {
		if Right(group) {
			t.Errorf("group %d: there is none", group)
		}
	}
	for group := -3000; group < 3000; group++ {
		if Right(group) != slices.Contains(groups(), group) {
			t.Errorf("group %d: %v", group, Right(group))
		}
	}
	if !Right(0) || !Right(1) || !Right(5) {
		t.Error("a group's number is another")
	}
}

// P5.1: the small primes, and the great one to the last limb.
func TestPrime(t *testing.T) {
	if p := Prime(0); !slices.Equal(p, []uint64{23}) {
		t.Errorf("the tiny one: %v", p)
	}
	if p := Prime(1); !slices.Equal(p, []uint64{2039}) {
		t.Errorf("the small one: %v", p)
	}
	for _, group := range groups() {
		is(t, "prime", Prime(group), prime(group))
		if !value(Prime(group)).ProbablyPrime(20) {
			t.Errorf("group %d: no prime", group)
		}
	}
	if p := Prime(5); len(p) != 24 || value(p).BitLen() != 1536 {
		t.Errorf("the great one: %d limbs, %d bits", len(p), value(p).BitLen())
	}
}

// P5.1: the great prime, limb by limb as the chapter writes it.
func TestPrimeInBaseSixteen(t *testing.T) {
	limbs := strings.Fields(great)
	p := Prime(api.GroupGreat)
	if len(p) != len(limbs) {
		t.Fatalf("%d limbs, want %d", len(p), len(limbs))
	}
	for i, limb := range slices.Backward(p) {
		text := strings.ToUpper(number(0).SetUint64(limb).Text(16))
		text = strings.Repeat("0", 16-len(text)) + text
		if want := limbs[len(limbs)-1-i]; text != want {
			t.Errorf("limb %d: %s, want %s", i, text, want)
		}
	}
}

// arcTangent is that of 1 by n, times one, cut a little.
func arcTangent(n int64, one *big.Int) *big.Int {
	sum, part := number(0), new(big.Int).Quo(one, number(n))
	for k := int64(0); part.Sign() != 0; k++ {
		term := new(big.Int).Quo(part, number(2*k+1))
		if k%2 == 0 {
			sum.Add(sum, term)
		} else {
			sum.Sub(sum, term)
		}
		part.Quo(part, number(n*n))
	}
	return sum
}

// pi is the whole part of 2^bits times pi, by Machin's sum, worked out with
// 200 bits more.
func pi(bits int64) *big.Int {
	one := power(2, bits+200)
	sum := new(big.Int).Mul(number(16), arcTangent(5, one))
	sum.Sub(sum, new(big.Int).Mul(number(4), arcTangent(239, one)))
	return sum.Rsh(sum, 200)
}

// P5.1: the great prime, by the chapter's own sum of powers of 2.
func TestPrimeBySum(t *testing.T) {
	if got := pi(40); got.Int64() != 0x3243f6a8885 {
		t.Fatalf("pi: %x", got)
	}
	sum := new(big.Int).Mul(power(2, 64), plus(pi(1406), 741804))
	sum.Add(sum, power(2, 1536))
	sum.Sub(sum, power(2, 1472))
	sum.Sub(sum, number(1))
	is(t, "by the sum", Prime(api.GroupGreat), sum)
}

// P5.1: the order is half of the prime less 1.
func TestOrder(t *testing.T) {
	if q := Order(0); !slices.Equal(q, []uint64{11}) {
		t.Errorf("the tiny one: %v", q)
	}
	if q := Order(1); !slices.Equal(q, []uint64{1019}) {
		t.Errorf("the small one: %v", q)
	}
	for _, group := range groups() {
		is(t, "order", Order(group), new(big.Int).Rsh(plus(prime(group), -1), 1))
		twice := new(big.Int).Lsh(value(Order(group)), 1)
		is(t, "twice the order, and 1", Prime(group), plus(twice, 1))
		if !value(Order(group)).ProbablyPrime(20) {
			t.Errorf("group %d: the order is no prime", group)
		}
	}
	q := Order(api.GroupGreat)
	if len(q) != 24 || q[0] != top || q[23] != top>>1 || q[1] != 0x78ba36046511b993 || q[22] != 0xe487ed5110b4611a {
		t.Errorf("the great one: %x", q)
	}
}

// P5.1: of no group, nothing.
func TestNoGroup(t *testing.T) {
	for _, group := range others() {
		if p, q := Prime(group), Order(group); len(p) != 0 || len(q) != 0 {
			t.Errorf("group %d: %v, %v", group, p, q)
		}
	}
}

// P5.2: of no group, nothing is an element.
func TestElementOfNoGroup(t *testing.T) {
	for _, group := range others() {
		for _, s := range []string{"", "\x00", "\x01", "\x02", "\x04", "\x09", "\x00\x02", strings.Repeat("\x07", 192), strings.Repeat("\x07", 401)} {
			element(t, "no group", group, s, false)
		}
	}
}

// P5.2: each text of up to two bytes, of the tiny and the small group: by
// squares that are worked out one by one.
func TestEachElement(t *testing.T) {
	for _, group := range []int{api.GroupTiny, api.GroupSmall} {
		p := int(prime(group).Int64())
		squares := make([]bool, p)
		for x := 1; x < p; x++ {
			squares[x*x%p] = true
		}
		element(t, "empty", group, "", false)
		for x := range 1 << 8 {
			element(t, "one byte", group, string([]byte{byte(x)}), x > 1 && x < p && squares[x])
		}
		for x := range 1 << 16 {
			s := string([]byte{byte(x >> 8), byte(x)})
			element(t, "two bytes", group, s, x >= 1<<8 && x < p && squares[x])
		}
	}
}

// P5.2: the tiny group's, by name.
func TestElementsOfTiny(t *testing.T) {
	elements := []int{2, 3, 4, 6, 8, 9, 12, 13, 16, 18}
	for x := range 1 << 8 {
		element(t, "by name", api.GroupTiny, string([]byte{byte(x)}), slices.Contains(elements, x))
	}
}

// P5.2: the edges that the chapter names.
func TestElementEdges(t *testing.T) {
	for _, group := range groups() {
		p := prime(group)
		two := "\x02"
		element(t, "2", group, two, true)
		element(t, "4", group, "\x04", true)
		element(t, "empty", group, "", false)
		element(t, "0, not whole", group, "\x00", false)
		element(t, "1", group, "\x01", false)
		element(t, "1, not whole", group, "\x00\x01", false)
		for _, noughts := range []int{1, 2, 7, 8, 191, 192, 399, 400} {
			element(t, "noughts ahead", group, strings.Repeat("\x00", noughts)+two, false)
		}
		element(t, "the prime less 1", group, string(plus(p, -1).Bytes()), false)
		element(t, "the prime", group, string(p.Bytes()), false)
		for more := range int64(40) {
			element(t, "the prime and more", group, string(plus(p, more).Bytes()), false)
		}
		// What these leave of the prime is an element.
		for _, times := range []int64{2, 3, 256, math.MaxInt64} {
			far := new(big.Int).Mul(p, number(times))
			element(t, "the prime many times, and 2", group, string(plus(far, 2).Bytes()), false)
		}
		// The prime is 3 more than a multiple of 4: of x and the prime less x
		// just one is a square. (23 less 22 is 1.)
		for x := int64(2); x < 22; x++ {
			other := new(big.Int).Sub(p, number(x))
			element(t, "the prime less a number", group, string(other.Bytes()), !square(group, number(x)))
		}
	}
}

// P5.2: as long as may be, and longer: none of these is below a prime.
func TestElementLong(t *testing.T) {
	for _, group := range groups() {
		p := prime(group)
		for _, length := range []int{192, 193, 399, 400, 401, 402, 1000, 1 << 20} {
			element(t, "all bits", group, strings.Repeat("\xff", length), false)
			element(t, "2, noughts ahead", group, strings.Repeat("\x00", length-1)+"\x02", false)
			// A text whose number leaves 4 of the prime.
			if length > 192 && length < 1000 {
				far := new(big.Int).Lsh(number(1), uint(8*length-1))
				far.Sub(far, new(big.Int).Mod(far, p))
				s := string(plus(far, 4).Bytes())
				if len(s) != length {
					t.Fatalf("%d bytes, want %d", len(s), length)
				}
				element(t, "leaves 4", group, s, false)
			}
		}
	}
}

// P5.2: the great group's elements, and others.
func TestElementsOfGreat(t *testing.T) {
	p := prime(api.GroupGreat)
	yes, no := 0, 0
	for _, x := range below(api.GroupGreat, 60) {
		s := string(x.Bytes())
		want := belongs(api.GroupGreat, s)
		element(t, "made", api.GroupGreat, s, want)
		if want {
			yes++
		} else {
			no++
		}
	}
	if yes < 10 || no < 10 {
		t.Errorf("%d elements and %d others", yes, no)
	}
	for x := range int64(100) {
		element(t, "little", api.GroupGreat, string(number(x).Bytes()), belongs(api.GroupGreat, string(number(x).Bytes())))
		s := string(new(big.Int).Sub(p, number(x)).Bytes())
		element(t, "close to the prime", api.GroupGreat, s, belongs(api.GroupGreat, s))
	}
	for bits := uint(1); bits < 1600; bits += 37 {
		s := string(new(big.Int).Lsh(number(1), bits).Bytes())
		element(t, "a power of 2", api.GroupGreat, s, bits < 1536)
	}
}

// P5.2: what is used are the powers of 2: each of them but 1 is an element, and
// there are as many as the order.
func TestPowersOfTwo(t *testing.T) {
	for _, group := range []int{api.GroupTiny, api.GroupSmall} {
		p, q := prime(group), value(Order(group)).Int64()
		met := map[int64]int{}
		for e := range 3 * q {
			x := new(big.Int).Exp(number(2), number(e), p)
			met[x.Int64()]++
			element(t, "a power of 2", group, string(x.Bytes()), e%q != 0)
		}
		if int64(len(met)) != q {
			t.Errorf("group %d: %d powers, want %d", group, len(met), q)
		}
	}
	p, q := prime(api.GroupGreat), value(Order(api.GroupGreat))
	for _, e := range append(below(api.GroupGreat, 20), plus(q, -1), q, plus(q, 1), plus(p, -1)) {
		x := new(big.Int).Exp(number(2), e, p)
		element(t, "a power of 2", api.GroupGreat, string(x.Bytes()), new(big.Int).Mod(e, q).Sign() != 0)
	}
}

// P5.3: just the squares are elements, or 1.
func TestSquares(t *testing.T) {
	for _, group := range groups() {
		p := prime(group)
		minus := plus(p, -1)
		all := append(below(group, 30), number(1), number(2), number(5), minus)
		for _, x := range all {
			s := new(big.Int).Mul(x, x)
			s.Mod(s, p)
			element(t, "a square", group, string(s.Bytes()), s.Cmp(number(1)) != 0)
			other := new(big.Int).Sub(p, s)
			element(t, "no square", group, string(other.Bytes()), false)
		}
	}
	for _, group := range []int{api.GroupTiny, api.GroupSmall} {
		p := prime(group)
		for x := int64(2); x < p.Int64(); x++ {
			root := new(big.Int).ModSqrt(number(x), p)
			element(t, "has a root, or none", group, string(number(x).Bytes()), root != nil)
		}
	}
}

// P5.3: there are as many as the order, 1 being one of them.
func TestHowMany(t *testing.T) {
	for _, group := range []int{api.GroupTiny, api.GroupSmall} {
		count := uint64(1)
		for x := range 1 << 12 {
			if Element(group, string(number(int64(x)).Bytes())) {
				count++
			}
		}
		if want := Order(group); !slices.Equal(want, []uint64{count}) {
			t.Errorf("group %d: %d, want %v", group, count, want)
		}
	}
}

// elements are some of a group's, by Element itself, and 1.
func elements(group int) []*big.Int {
	all := []*big.Int{number(1)}
	candidates := below(group, 24)
	if group == api.GroupTiny {
		candidates = nil
		for x := range int64(23) {
			candidates = append(candidates, number(x))
		}
	}
	for _, x := range candidates {
		if Element(group, string(x.Bytes())) {
			all = append(all, x)
		}
	}
	return all
}

// P5.3: a product of two elements is one, or 1; of an element and another
// number it is another.
func TestProducts(t *testing.T) {
	for _, group := range groups() {
		p, all := prime(group), elements(group)
		if len(all) < 5 {
			t.Fatalf("group %d: but %d elements", group, len(all))
		}
		if group == api.GroupGreat {
			all = all[:5]
		}
		for _, x := range all {
			for _, y := range all {
				xy := new(big.Int).Mul(x, y)
				xy.Mod(xy, p)
				element(t, "a product", group, string(xy.Bytes()), xy.Cmp(number(1)) != 0)
			}
			inverse := new(big.Int).ModInverse(x, p)
			element(t, "an inverse", group, string(inverse.Bytes()), x.Cmp(number(1)) != 0)
			other := new(big.Int).Mul(x, plus(p, -1))
			element(t, "a product with another", group, string(other.Mod(other, p).Bytes()), false)
		}
	}
}

// Rule 3: what was answered may be written to, its spare room too, and the
// next answer is as it was.
func TestAnswersAreNew(t *testing.T) {
	for _, group := range append(groups(), others()...) {
		p, q := Prime(group), Order(group)
		wantP, wantQ := slices.Clone(p), slices.Clone(q)
		for _, answer := range [][]uint64{p[:cap(p)], q[:cap(q)]} {
			for i := range answer {
				answer[i] = 0xbad
			}
		}
		again, half := Prime(group), Order(group)
		if !slices.Equal(again, wantP) || !slices.Equal(half, wantQ) {
			t.Errorf("group %d: another answer: %v, %v", group, again, half)
		}
		if Right(group) != slices.Contains(groups(), group) {
			t.Errorf("group %d: %v", group, Right(group))
		}
		element(t, "afterwards", group, "\x02", Right(group))
	}
}

// Rules 4 and 6: the same arguments come to the same, in whatever goroutine,
// while others write to what they were answered.
func TestManyAtOnce(t *testing.T) {
	var workers sync.WaitGroup
	for range 8 {
		workers.Go(func() {
			for range 3 {
				for _, group := range groups() {
					p, q := Prime(group), Order(group)
					is(t, "prime", p, prime(group))
					is(t, "order", q, new(big.Int).Rsh(prime(group), 1))
					clear(p)
					clear(q)
					element(t, "2", group, "\x02", true)
					element(t, "the prime less 2", group, string(plus(prime(group), -2).Bytes()), false)
				}
			}
		})
	}
	workers.Wait()
}

// P1: no call panics, at any arguments; each answer is right at all of them.
func FuzzAll(f *testing.F) {
	for _, group := range []int{0, 1, 5, 9, -1, math.MinInt, math.MaxInt} {
		for _, s := range []string{"", "\x00", "\x01", "\x02", "\x05", "\x00\x02", "\x16", "\x17", "\x19", "\x07\xf6", "\x07\xf7", "\x07\xf9"} {
			f.Add(group, s)
		}
		f.Add(group, string(plus(prime(5), -1).Bytes()))
		f.Add(group, string(prime(5).Bytes()))
		f.Add(group, strings.Repeat("\xff", 401))
	}
	f.Fuzz(func(t *testing.T, group int, s string) {
		element(t, "any", group, s, belongs(group, s))
		there := slices.Contains(groups(), group)
		if Right(group) != there || len(Prime(group)) > 0 != there || len(Order(group)) > 0 != there {
			t.Errorf("group %d: %v, %v, %v", group, Right(group), Prime(group), Order(group))
		}
	})
}
