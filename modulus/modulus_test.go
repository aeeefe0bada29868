package modulus

import (
	"math"
	"math/big"
	"math/rand"
	"slices"
	"sync"
	"testing"
)

const top = math.MaxUint64

// numbers are ordinary ones and edges: odd and even, powers of 2 among them;
// many have noughts on top.
func numbers() [][]uint64 {
	return [][]uint64{
		nil,
		{},
		{0},
		{0, 0, 0},
		{1},
		{1, 0},
		{2},
		{2, 0, 0},
		{3},
		{10},
		{23, 0},
		{100},
		{1 << 32},
		{1 << 63},
		{1<<63 + 1},
		{1<<63 - 1},
		{top},
		{top, 0},
		{top - 1},
		{0, 1},
		{0, 1, 0},
		{1, 1},
		{0, 1 << 63},
		{1, 1 << 63},
		{top, 1<<63 - 1},
		{top, top},
		{top - 1, top, 0},
		{1, top},
		{0, 0, 1},
		{1, 0, 1},
		{top, 0, 1},
		{0, 0, top},
		{top, 0, top},
		{1, 0, 0, 1 << 63},
		{top, top, top, top},
		{0x0123456789abcdef, 0xfedcba9876543210, 42},
	}
}

// made are numbers from a fixed seed, many of their limbs at the ends of the
// type.
func made(count int) [][]uint64 {
	r := rand.New(rand.NewSource(6))
	all := make([][]uint64, count)
	for i := range all {
		all[i] = limbsOf(r, r.Intn(6))
	}
	return all
}

func limbsOf(r *rand.Rand, count int) []uint64 {
	a := make([]uint64, count)
	for j := range a {
		a[j] = []uint64{0, 1, top, top - 1, 1 << 63, r.Uint64(), r.Uint64(), r.Uint64() >> 40}[r.Intn(8)]
	}
	return a
}

// value is a as math/big has it: put together by sums and shifts, by none of
// the project's own means.
func value(a []uint64) *big.Int {
	v := new(big.Int)
	for _, limb := range slices.Backward(a) {
		v.Lsh(v, 64).Add(v, new(big.Int).SetUint64(limb))
	}
	return v
}

// number is the other way round.
func number(v *big.Int) []uint64 {
	var a []uint64
	low := new(big.Int).SetUint64(top)
	for v = new(big.Int).Set(v); v.Sign() > 0; v.Rsh(v, 64) {
		a = append(a, new(big.Int).And(v, low).Uint64())
	}
	return a
}

// leaves holds an answer against what v leaves of m: nothing and false of m
// 0.
func leaves(t *testing.T, what string, got []uint64, ok bool, v *big.Int, m []uint64) {
	t.Helper()
	by := value(m)
	if by.Sign() == 0 {
		if ok || len(got) != 0 {
			t.Errorf("%s, of 0: %v, %v", what, got, ok)
		}
		return
	}
	if !ok {
		t.Errorf("%s, of %v: none", what, m)
	}
	if want := new(big.Int).Mod(v, by); value(got).Cmp(want) != 0 {
		t.Errorf("%s, of %v: %v, want %v", what, m, got, number(want))
	}
	if value(got).Cmp(by) >= 0 {
		t.Errorf("%s, of %v: %v is not less", what, m, got)
	}
	if len(got) > 0 && got[len(got)-1] == 0 {
		t.Errorf("%s, of %v: a nought on top of %v", what, m, got)
	}
}

func rests(t *testing.T, a, m []uint64) {
	t.Helper()
	got, ok := Rest(a, m)
	leaves(t, "Rest", got, ok, value(a), m)
}

func multiplies(t *testing.T, a, b, m []uint64) {
	t.Helper()
	got, ok := Times(a, b, m)
	leaves(t, "Times", got, ok, new(big.Int).Mul(value(a), value(b)), m)
}

func raises(t *testing.T, a, e, m []uint64) {
	t.Helper()
	got, ok := Power(a, e, m)
	want := new(big.Int)
	// Of a modulus 0, math/big would work out the whole power.
	if by := value(m); by.Sign() != 0 {
		want.Exp(value(a), value(e), by)
	}
	leaves(t, "Power", got, ok, want, m)
}

func triples(check func(a, b, m []uint64)) {
	few := append(numbers(), made(10)...)
	for _, a := range few {
		for _, b := range few {
			for _, m := range few {
				check(a, b, m)
			}
		}
	}
}

// randomTriples are of many lengths, half of the third ones odd.
func randomTriples(count int, check func(a, b, m []uint64)) {
	r := rand.New(rand.NewSource(7))
	for i := range count {
		m := limbsOf(r, 1+r.Intn(9))
		m[0] = m[0]&^1 | uint64(i&1)
		check(limbsOf(r, r.Intn(12)), limbsOf(r, r.Intn(5)), m)
	}
}

// P4.1: Rest.
func TestRest(t *testing.T) {
	all := append(numbers(), made(120)...)
	for _, a := range all {
		for _, m := range all {
			rests(t, a, m)
		}
	}
	randomTriples(2000, func(a, _, m []uint64) { rests(t, a, m) })
}

// P4.1: Times.
func TestTimes(t *testing.T) {
	check := func(a, b, m []uint64) { multiplies(t, a, b, m) }
	triples(check)
	randomTriples(2000, check)
}

// P4.1: Power.
func TestPower(t *testing.T) {
	check := func(a, e, m []uint64) { raises(t, a, e, m) }
	triples(check)
	randomTriples(1000, check)
}

func TestRestEdges(t *testing.T) {
	for _, c := range []struct {
		what       string
		a, m, want []uint64
	}{
		{"nothing", nil, []uint64{5}, nil},
		{"nothing, empty", []uint64{}, []uint64{5}, nil},
		{"noughts", []uint64{0, 0}, []uint64{5, 0}, nil},
		{"of 1", []uint64{4, 5, 6}, []uint64{1}, nil},
		{"less", []uint64{4}, []uint64{5}, []uint64{4}},
		{"less, noughts on top", []uint64{4, 0, 0}, []uint64{5, 0}, []uint64{4}},
		{"the same", []uint64{4, 5}, []uint64{4, 5}, nil},
		{"the same, noughts on top", []uint64{4, 5}, []uint64{4, 5, 0}, nil},
		{"greater", []uint64{6, 5}, []uint64{4, 5}, []uint64{2}},
		{"2^64", []uint64{0, 1}, []uint64{10}, []uint64{6}},
		{"a power of 2", []uint64{7, 8, 9}, []uint64{0, 8}, []uint64{7}},
		{"within a limb", []uint64{0x1234, 8, 9}, []uint64{1 << 8}, []uint64{0x34}},
	} {
		if got, ok := Rest(c.a, c.m); !ok || !slices.Equal(got, c.want) {
			t.Errorf("%s: %v, %v", c.what, got, ok)
		}
	}
}

func TestTimesEdges(t *testing.T) {
	for _, c := range []struct {
		what          string
		a, b, m, want []uint64
	}{
		{"two numbers", []uint64{5}, []uint64{6}, []uint64{7}, []uint64{2}},
		{"noughts on top", []uint64{5, 0}, []uint64{6, 0, 0}, []uint64{7, 0}, []uint64{2}},
		{"by nothing", []uint64{5}, nil, []uint64{7}, nil},
		{"by nothing, empty", []uint64{5}, []uint64{}, []uint64{7}, nil},
		{"by noughts", []uint64{5}, []uint64{0, 0}, []uint64{7}, nil},
		{"of 1", []uint64{5, 6}, []uint64{6}, []uint64{1}, nil},
		{"less than m", []uint64{2}, []uint64{3}, []uint64{0, 1}, []uint64{6}},
		{"just m", []uint64{2}, []uint64{3}, []uint64{6}, nil},
		{"m itself", []uint64{3, 4}, []uint64{9}, []uint64{3, 4}, nil},
		{"1 less than m, twice", []uint64{top, top}, []uint64{top, top}, []uint64{0, 0, 1}, []uint64{1}},
		{"more than m, both", []uint64{12, 7}, []uint64{13, 7}, []uint64{10, 7}, []uint64{6}},
		{"a power of 2", []uint64{0, 3}, []uint64{5, 1}, []uint64{0, 0, 1}, []uint64{0, 15}},
	} {
		if got, ok := Times(c.a, c.b, c.m); !ok || !slices.Equal(got, c.want) {
			t.Errorf("%s: %v, %v", c.what, got, ok)
		}
		if got, ok := Times(c.b, c.a, c.m); !ok || !slices.Equal(got, c.want) {
			t.Errorf("%s, the other way round: %v, %v", c.what, got, ok)
		}
	}
}

func TestPowerEdges(t *testing.T) {
	for _, c := range []struct {
		what          string
		a, e, m, want []uint64
	}{
		{"the chapter's example", []uint64{2}, []uint64{11}, []uint64{23}, []uint64{1}},
		{"it with noughts on top", []uint64{2, 0}, []uint64{11, 0, 0}, []uint64{23, 0}, []uint64{1}},
		{"of 0", []uint64{5}, nil, []uint64{7}, []uint64{1}},
		{"of 0, empty", []uint64{5}, []uint64{}, []uint64{8}, []uint64{1}},
		{"of noughts", []uint64{5}, []uint64{0, 0}, []uint64{7, 0}, []uint64{1}},
		{"of 0, of 1", []uint64{5}, nil, []uint64{1}, nil},
		{"of 0, of 1, noughts on top", []uint64{5}, []uint64{0}, []uint64{1, 0}, nil},
		{"of 0, of 2", []uint64{6}, nil, []uint64{2}, []uint64{1}},
		{"0 of 0", nil, nil, []uint64{9, 9}, []uint64{1}},
		{"0 of 0, of an even number", []uint64{0}, []uint64{0}, []uint64{8, 9}, []uint64{1}},
		{"0 of 1", nil, []uint64{1}, []uint64{9}, nil},
		{"0 of 1, of an even number", []uint64{0, 0}, []uint64{1}, []uint64{8}, nil},
		{"m of 0", []uint64{9, 9}, nil, []uint64{9, 9}, []uint64{1}},
		{"m of 1", []uint64{9, 9}, []uint64{1}, []uint64{9, 9}, nil},
		{"of 1, less than m", []uint64{4, 5}, []uint64{1}, []uint64{5, 5}, []uint64{4, 5}},
		{"of 1, greater", []uint64{7, 5}, []uint64{1}, []uint64{5, 5}, []uint64{2}},
		{"of 1, greater than an even number", []uint64{7, 5}, []uint64{1, 0}, []uint64{4, 5}, []uint64{3}},
		{"of m 1", []uint64{5}, []uint64{9, 9}, []uint64{1}, nil},
		{"of m 2", []uint64{5}, []uint64{9, 9}, []uint64{2}, []uint64{1}},
		{"2 within m", []uint64{2}, []uint64{100}, []uint64{1, 0, 1}, []uint64{0, 1 << 36}},
		{"2 just m", []uint64{2}, []uint64{128}, []uint64{0, 0, 1}, nil},
		{"2 below m", []uint64{2}, []uint64{127}, []uint64{0, 0, 1}, []uint64{0, 1 << 63}},
		{"1 less than m, an even power", []uint64{top - 1, top}, []uint64{top - 1, 3}, []uint64{top, top}, []uint64{1}},
		{"1 less than m, an odd power", []uint64{top - 1, top}, []uint64{top, 3}, []uint64{top, top}, []uint64{top - 1, top}},
		{"of an even number", []uint64{3}, []uint64{5}, []uint64{100}, []uint64{43}},
		{"a great power of 3, of 2^64", []uint64{3}, []uint64{0, 1}, []uint64{0, 1}, []uint64{1}},
	} {
		if got, ok := Power(c.a, c.e, c.m); !ok || !slices.Equal(got, c.want) {
			t.Errorf("%s: %v, %v", c.what, got, ok)
		}
	}
}

// P4.1: of 0 there is nothing, in each of its forms and of each call.
func TestOfNought(t *testing.T) {
	few := append(numbers(), made(10)...)
	for _, nought := range [][]uint64{nil, {}, {0}, {0, 0}, make([]uint64, 9, 12)} {
		for _, a := range few {
			for _, b := range few {
				for what, call := range map[string]func() ([]uint64, bool){
					"Rest":  func() ([]uint64, bool) { return Rest(a, nought) },
					"Times": func() ([]uint64, bool) { return Times(a, b, nought) },
					"Power": func() ([]uint64, bool) { return Power(a, b, nought) },
				} {
					if got, ok := call(); ok || len(got) != 0 {
						t.Errorf("%s(%v, %v) of %v: %v, %v", what, a, b, nought, got, ok)
					}
				}
			}
		}
	}
}

// P4.1: whatever noughts there are on top of whatever is handed in.
func TestNoughtsOnTop(t *testing.T) {
	higher := func(a []uint64, by int) []uint64 { return append(slices.Clone(a), make([]uint64, by)...) }
	randomTriples(200, func(a, b, m []uint64) {
		for i := range 8 {
			x, y, z := higher(a, i&1*3), higher(b, i>>1&1*2), higher(m, i>>2*4)
			rests(t, x, z)
			multiplies(t, x, y, z)
			raises(t, x, y, z)
		}
	})
}

// P4.1: exponents of one bit, and of all bits below it.
func TestExponentsByBits(t *testing.T) {
	moduli := [][]uint64{{23}, {100}, {1 << 63}, {top}, {0, 1}, {1, 1 << 63}, {6, 5, 4}, {top, top, top}}
	for _, m := range moduli {
		for _, a := range [][]uint64{{2}, {3}, {top, 1}, {top - 1, top, top}, {7, 0, 0, 1}} {
			for i := range uint(200) {
				bit := new(big.Int).Lsh(big.NewInt(1), i)
				raises(t, a, number(bit), m)
				raises(t, a, number(bit.Sub(bit, big.NewInt(1))), m)
			}
		}
	}
}

// P4.1: powers of 2, and what lies beside them, as what is divided by.
func TestOfPowersOfTwo(t *testing.T) {
	for i := range uint(260) {
		power := new(big.Int).Lsh(big.NewInt(1), i)
		more := new(big.Int).Add(power, big.NewInt(1))
		less := new(big.Int).Sub(power, big.NewInt(1))
		for _, m := range [][]uint64{number(power), number(more), number(less)} {
			for _, a := range [][]uint64{{3}, {top, top}, {6, 0, 5}, number(less), number(power), number(more)} {
				rests(t, a, m)
				multiplies(t, a, []uint64{top, 0, 7}, m)
				raises(t, a, []uint64{uint64(i), 5}, m)
			}
		}
	}
}

// P4.1: numbers less than m, the same and greater, close by.
func TestCloseToTheModulus(t *testing.T) {
	for _, m := range append(numbers(), made(60)...) {
		by := value(m)
		for _, times := range []int64{1, 2, 3} {
			for _, more := range []int64{-2, -1, 0, 1, 2} {
				v := new(big.Int).Mul(by, big.NewInt(times))
				if v.Add(v, big.NewInt(more)).Sign() < 0 {
					continue
				}
				a := number(v)
				rests(t, a, m)
				multiplies(t, a, a, m)
				raises(t, a, []uint64{3}, m)
				raises(t, a, a, m)
			}
		}
	}
}

// power, product and rest are calls where there is an answer.
func power(t *testing.T, a, e, m []uint64) []uint64 {
	t.Helper()
	return answer(t)(Power(a, e, m))
}

func product(t *testing.T, a, b, m []uint64) []uint64 {
	t.Helper()
	return answer(t)(Times(a, b, m))
}

func rest(t *testing.T, a, m []uint64) []uint64 {
	t.Helper()
	return answer(t)(Rest(a, m))
}

func answer(t *testing.T) func([]uint64, bool) []uint64 {
	return func(got []uint64, ok bool) []uint64 {
		t.Helper()
		if !ok {
			t.Error("none")
		}
		return got
	}
}

func same(t *testing.T, what string, got, want []uint64) {
	t.Helper()
	if !slices.Equal(got, want) {
		t.Errorf("%s: %v, want %v", what, got, want)
	}
}

// P4.2: powers add up and multiply; so do one power more, and products.
func TestPowersAddUp(t *testing.T) {
	one := big.NewInt(1)
	randomTriples(400, func(a, e, m []uint64) {
		if value(m).Sign() == 0 {
			return
		}
		for _, f := range [][]uint64{nil, {1}, {2}, {top}, {0, 1}, {5, 7}} {
			x, y := value(e), value(f)
			sum, times := new(big.Int).Add(x, y), new(big.Int).Mul(x, y)
			toE, toF := power(t, a, e, m), power(t, a, f, m)
			same(t, "the sum", power(t, a, number(sum), m), product(t, toE, toF, m))
			same(t, "the product", power(t, a, number(times), m), power(t, toE, f, m))
			same(t, "of a product", power(t, product(t, a, f, m), e, m), product(t, toE, power(t, f, e, m), m))
		}
		more := number(new(big.Int).Add(value(e), one))
		same(t, "one more", power(t, a, more, m), product(t, power(t, a, e, m), a, m))
		same(t, "none", power(t, a, nil, m), rest(t, []uint64{1}, m))
		same(t, "one", power(t, a, []uint64{1}, m), rest(t, a, m))
		same(t, "two", power(t, a, []uint64{2}, m), product(t, a, a, m))
	})
}

// P4.2: numbers that leave the same have the same products and powers.
func TestSameRestSamePowers(t *testing.T) {
	randomTriples(400, func(a, e, m []uint64) {
		if value(m).Sign() == 0 {
			return
		}
		left := rest(t, a, m)
		for _, times := range [][]uint64{{1}, {2}, {top, 3}} {
			v := new(big.Int).Mul(value(m), value(times))
			other := number(v.Add(v, value(a)))
			same(t, "rest", rest(t, other, m), left)
			same(t, "times", product(t, other, e, m), product(t, left, e, m))
			same(t, "power", power(t, other, e, m), power(t, left, e, m))
		}
	})
}

// P4.2: of a prime, each number's power of one less leaves 1.
func TestFermat(t *testing.T) {
	for _, bits := range []uint{2, 3, 5, 7, 13, 17, 19, 31, 61, 89, 107, 127, 521} {
		p := new(big.Int).Lsh(big.NewInt(1), bits)
		p.Sub(p, big.NewInt(1))
		m, less := number(p), number(new(big.Int).Sub(p, big.NewInt(1)))
		for _, a := range append(numbers(), less) {
			want := []uint64{1}
			if new(big.Int).Mod(value(a), p).Sign() == 0 {
				want = nil
			}
			same(t, "one less", power(t, a, less, m), want)
		}
	}
}

// P1: all lengths of numbers, odd and even ones.
func TestAllLengths(t *testing.T) {
	r := rand.New(rand.NewSource(8))
	for n := range 27 {
		for k := range 27 {
			a, m := limbsOf(r, n), limbsOf(r, k)
			b := limbsOf(r, r.Intn(27))
			rests(t, a, m)
			multiplies(t, a, b, m)
			raises(t, a, limbsOf(r, r.Intn(4)), m)
		}
	}
}

// P1: as many limbs as groups have, and more.
func TestManyLimbs(t *testing.T) {
	r := rand.New(rand.NewSource(9))
	for _, length := range []int{24, 25, 48, 64} {
		ones := slices.Repeat([]uint64{top}, length)
		odd, even := limbsOf(r, length), limbsOf(r, length)
		odd[0] |= 1
		even[0] &^= 1
		high := append(make([]uint64, length-1), 1<<63)
		for _, m := range [][]uint64{ones, odd, even, high} {
			for _, a := range [][]uint64{{2}, ones, odd, even, high} {
				raises(t, a, limbsOf(r, 8), m)
			}
		}
	}
	raises(t, []uint64{2}, limbsOf(r, 48), slices.Repeat([]uint64{top}, 24))
	long := slices.Repeat([]uint64{top}, 20000)
	rests(t, long, []uint64{10, 7})
	multiplies(t, long, long, []uint64{10, 7})
	raises(t, long, []uint64{5}, []uint64{9, 7})
}

// P1: a product of lifted numbers whose sum goes beyond their limbs, by what
// comes of each part of it.
func TestSumsBeyond(t *testing.T) {
	limbs := []uint64{0, 1, 2, 1 << 63, top - 1, top}
	for _, low := range []uint64{1, 3, 1<<63 + 1, top - 2, top} {
		for _, high := range limbs {
			m := []uint64{low, high}
			for _, x := range limbs {
				for _, y := range limbs {
					raises(t, []uint64{x, y}, []uint64{2}, m)
					raises(t, []uint64{x, y}, []uint64{7}, m)
					raises(t, []uint64{y, x, y}, []uint64{top}, append([]uint64{low}, m...))
				}
			}
		}
	}
}

// An odd limb times its inverse has 1 as its lowest limb.
func TestInverseOf(t *testing.T) {
	r := rand.New(rand.NewSource(10))
	check := func(limb uint64) {
		if got := limb * inverseOf(limb); got != 1 {
			t.Errorf("%d: %d", limb, got)
		}
	}
	for i := range uint64(2000) {
		check(2*i + 1)
		check(top - 2*i)
		check(r.Uint64() | 1)
	}
	for i := range 64 {
		check(1<<i | 1)
		check(top>>i | 1)
	}
}

// guarded is a within a longer list, so that it has spare room; whole is that
// list.
func guarded(a []uint64) (inside, whole []uint64) {
	whole = append(slices.Clone(a), 77, 78, 79)
	return whole[:len(a)], whole
}

// calls has all answers that are lists.
func calls(a, b, m []uint64) [][]uint64 {
	left, _ := Rest(a, m)
	times, _ := Times(a, b, m)
	raised, _ := Power(a, b, m)
	return [][]uint64{left, times, raised}
}

// Rule 3: what is handed in is not changed, its spare room neither, nor by
// what becomes of an answer afterwards; nor do two answers share memory.
func TestArgumentsStay(t *testing.T) {
	triples(func(a, b, m []uint64) {
		x, wholeX := guarded(a)
		y, wholeY := guarded(b)
		z, wholeZ := guarded(m)
		before := [][]uint64{slices.Clone(wholeX), slices.Clone(wholeY), slices.Clone(wholeZ)}
		answers := calls(x, y, z)
		kept := make([][]uint64, len(answers))
		for i, answer := range answers {
			kept[i] = slices.Clone(answer)
		}
		for i, answer := range answers {
			if !slices.Equal(answer, kept[i]) {
				t.Errorf("%v, %v, %v: an answer was changed by another's: %v", a, b, m, answer)
			}
			room := answer[:cap(answer)]
			for j := range room {
				room[j] = 0xbad
			}
		}
		if after := [][]uint64{wholeX, wholeY, wholeZ}; !slices.EqualFunc(after, before, slices.Equal) {
			t.Errorf("%v were changed: %v", before, after)
		}
	})
}

// Rule 3: one list as all that is handed in.
func TestOneListAsAll(t *testing.T) {
	for _, a := range append(numbers(), made(60)...) {
		x, whole := guarded(a)
		before := slices.Clone(whole)
		rests(t, x, x)
		multiplies(t, x, x, x)
		raises(t, x, x, x)
		raises(t, x, x, []uint64{1009})
		raises(t, x, x, []uint64{1 << 20})
		same(t, "what was handed in", whole, before)
	}
}

// Rules 4 and 6: the same arguments come to the same, in whatever goroutine,
// whatever room there is behind them.
func TestManyAtOnce(t *testing.T) {
	all := append(numbers(), made(20)...)
	other := func(i, by int) []uint64 { return all[(i+by)%len(all)] }
	want := make([][][]uint64, len(all))
	for i, a := range all {
		want[i] = calls(slices.Clip(slices.Clone(a)), other(i, 7), other(i, 19))
	}
	var group sync.WaitGroup
	for range 8 {
		group.Go(func() {
			for i, a := range all {
				x, _ := guarded(a)
				if !slices.EqualFunc(calls(x, other(i, 7), other(i, 19)), want[i], slices.Equal) {
					t.Errorf("%v: another answer", a)
				}
			}
		})
	}
	group.Wait()
}

// P1: no call panics, at any arguments; each answer is right at all of them.
func FuzzAll(f *testing.F) {
	f.Add([]byte{}, []byte{1}, []byte{})
	f.Add([]byte{2}, []byte{11}, []byte{23})
	f.Add([]byte{3}, []byte{0, 0, 0, 0, 0, 0, 0, 0, 1}, []byte{0, 0, 0, 0, 0, 0, 0, 0, 1})
	f.Add(slices.Repeat([]byte{255}, 64), slices.Repeat([]byte{255}, 9), slices.Repeat([]byte{255}, 24))
	f.Fuzz(func(t *testing.T, p, q, s []byte) {
		// Longer ones take longer alone.
		a, b, m := limbs(p[:min(len(p), 200)]), limbs(q[:min(len(q), 40)]), limbs(s[:min(len(s), 100)])
		rests(t, a, m)
		multiplies(t, a, b, m)
		raises(t, a, b, m)
	})
}

// limbs reads bytes as limbs, eight a limb, the last one filled up.
func limbs(p []byte) []uint64 {
	var a []uint64
	for i, x := range p {
		if i%8 == 0 {
			a = append(a, 0)
		}
		a[i/8] |= uint64(x) << (i % 8 * 8)
	}
	return a
}
