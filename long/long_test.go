package long

import (
	"math"
	"math/big"
	"math/rand"
	"slices"
	"sync"
	"testing"
)

const top = math.MaxUint64

// numbers are ordinary ones and edges; many have noughts on top.
func numbers() [][]uint64 {
	return [][]uint64{
		nil,
		{},
		{0},
		{0, 0, 0},
		{1},
		{1, 0},
		{2},
		{3},
		{7, 0, 0},
		{1 << 63},
		{1<<63 + 1},
		{1<<63 - 1},
		{top},
		{top, 0},
		{top - 1},
		{1 << 32},
		{0, 1},
		{0, 1, 0, 0},
		{1, 1 << 63},
		{0, 1 << 63},
		{top, 1 << 63},
		{top, 1<<63 - 1},
		{top, top},
		{top, top, 0},
		{0, 0, 1},
		{1, 0, 1},
		{top, 0, 1},
		{0, 0, 1 << 63},
		{0, top - 1, 1 << 63},
		{top, 0, top},
		{0, top, 0, 1},
		{0, 0, top, 5},
		{top, top, 6},
		{top, top, top, top},
		{0, 0, 0, 0, 1},
		{0x0123456789abcdef, 0xfedcba9876543210, 42},
	}
}

// made are numbers from a fixed seed, many of their limbs at the ends of the
// type.
func made(count int) [][]uint64 {
	r := rand.New(rand.NewSource(2))
	all := make([][]uint64, count)
	for i := range all {
		a := make([]uint64, r.Intn(7))
		for j := range a {
			a[j] = []uint64{0, 1, top, top - 1, 1 << 63, 1<<63 - 1, r.Uint64(), r.Uint64() >> 40}[r.Intn(8)]
		}
		all[i] = a
	}
	return all
}

// value is a as math/big has it: worked out byte by byte, by none of the
// project's own means.
func value(a []uint64) *big.Int {
	var raw []byte
	for _, limb := range slices.Backward(a) {
		for shift := 56; shift >= 0; shift -= 8 {
			raw = append(raw, byte(limb>>shift))
		}
	}
	return new(big.Int).SetBytes(raw)
}

// number is the other way round.
func number(v *big.Int) []uint64 {
	var a []uint64
	for i, x := range slices.Backward(v.Bytes()) {
		place := len(v.Bytes()) - 1 - i
		if place%8 == 0 {
			a = append(a, 0)
		}
		a[place/8] |= uint64(x) << (place % 8 * 8)
	}
	return a
}

// is tells where got is another number than want, or has a nought on top.
func is(t *testing.T, what string, got []uint64, want *big.Int) {
	t.Helper()
	if len(got) > 0 && got[len(got)-1] == 0 {
		t.Errorf("%s: a nought on top of %v", what, got)
	}
	if value(got).Cmp(want) != 0 {
		t.Errorf("%s: %v, want %v", what, got, want)
	}
}

// divides holds Divide against math/big, and against the promise itself.
func divides(t *testing.T, a, b []uint64) {
	t.Helper()
	quotient, rest, ok := Divide(a, b)
	x, y := value(a), value(b)
	if y.Sign() == 0 {
		if ok || len(quotient) != 0 || len(rest) != 0 {
			t.Errorf("Divide(%v, %v): %v, %v, %v", a, b, quotient, rest, ok)
		}
		return
	}
	if !ok {
		t.Errorf("Divide(%v, %v): none", a, b)
	}
	q, r := new(big.Int).QuoRem(x, y, new(big.Int))
	is(t, "quotient", quotient, q)
	is(t, "rest", rest, r)
	// P2.2.
	back := new(big.Int).Add(value(Mul(quotient, b)), value(rest))
	if back.Cmp(x) != 0 || value(rest).Cmp(y) >= 0 {
		t.Errorf("%v by %v: %v, %v is left", a, b, quotient, rest)
	}
}

func pairs(check func(a, b []uint64)) {
	all := append(numbers(), made(120)...)
	for _, a := range all {
		for _, b := range all {
			check(a, b)
		}
	}
}

// P2.1: Mul.
func TestMul(t *testing.T) {
	pairs(func(a, b []uint64) {
		is(t, "Mul", Mul(a, b), new(big.Int).Mul(value(a), value(b)))
	})
}

func TestMulEdges(t *testing.T) {
	for _, c := range []struct {
		what       string
		a, b, want []uint64
	}{
		{"nothing at all", nil, nil, nil},
		{"nothing, empty", []uint64{}, nil, nil},
		{"by nothing", []uint64{4, 5}, nil, nil},
		{"by noughts", []uint64{4, 5}, []uint64{0, 0, 0}, nil},
		{"noughts", []uint64{0, 0}, []uint64{0}, nil},
		{"by 1, noughts on top", []uint64{4, 5, 0}, []uint64{1, 0, 0}, []uint64{4, 5}},
		{"two limbs", []uint64{6}, []uint64{7}, []uint64{42}},
		{"limbs of ones", []uint64{top}, []uint64{top}, []uint64{1, top - 1}},
		{"two of them", []uint64{top, top}, []uint64{top, top}, []uint64{1, 0, top - 1, top}},
		{"a carry through several limbs", []uint64{top, top, top}, []uint64{2}, []uint64{top - 1, top, top, 1}},
		{"a carry out of sums", []uint64{top, top, top}, []uint64{1, 1}, []uint64{top, top - 1, top, 0, 1}},
		{"a nought in between", []uint64{5, 0, 7}, []uint64{0, 3}, []uint64{0, 15, 0, 21}},
		{"2 to a power", []uint64{1 << 63, 1}, []uint64{0, 2}, []uint64{0, 0, 3}},
	} {
		if got := Mul(c.a, c.b); !slices.Equal(got, c.want) {
			t.Errorf("%s: %v", c.what, got)
		}
		if got := Mul(c.b, c.a); !slices.Equal(got, c.want) {
			t.Errorf("%s, the other way round: %v", c.what, got)
		}
	}
}

// P2.1, P2.2: Divide.
func TestDivide(t *testing.T) {
	pairs(func(a, b []uint64) { divides(t, a, b) })
}

func TestDivideEdges(t *testing.T) {
	for _, c := range []struct {
		what                 string
		a, b, quotient, left []uint64
	}{
		{"the chapter's example", []uint64{7}, []uint64{2}, []uint64{3}, []uint64{1}},
		{"it with noughts on top", []uint64{7, 0, 0}, []uint64{2, 0}, []uint64{3}, []uint64{1}},
		{"nothing", nil, []uint64{2}, nil, nil},
		{"nothing, empty", []uint64{}, []uint64{2, 3}, nil, nil},
		{"noughts", []uint64{0, 0, 0}, []uint64{2}, nil, nil},
		{"by more", []uint64{5}, []uint64{6}, nil, []uint64{5}},
		{"by more, noughts on top", []uint64{5, 0, 0}, []uint64{0, 1}, nil, []uint64{5}},
		{"by more, of as many limbs", []uint64{9, 1}, []uint64{8, 2}, nil, []uint64{9, 1}},
		{"by the same", []uint64{4, 5, 6}, []uint64{4, 5, 6}, []uint64{1}, nil},
		{"by the same, noughts on top", []uint64{4, 5, 6}, []uint64{4, 5, 6, 0}, []uint64{1}, nil},
		{"by 1 less", []uint64{4, 5}, []uint64{3, 5}, []uint64{1}, []uint64{1}},
		{"by 1", []uint64{4, 5, 6}, []uint64{1}, []uint64{4, 5, 6}, nil},
		{"ones by 1", []uint64{top, top}, []uint64{1, 0}, []uint64{top, top}, nil},
		{"by 2 to a power", []uint64{5, 3, 2}, []uint64{4}, []uint64{1 | 3<<62, 1 << 63}, []uint64{1}},
		{"by a whole limb", []uint64{5, 3, 2}, []uint64{0, 1}, []uint64{3, 2}, []uint64{5}},
		{"by half a limb", []uint64{5, 3}, []uint64{1 << 63}, []uint64{6}, []uint64{5}},
		{"ones by ones", []uint64{top, top, top, top}, []uint64{top, top}, []uint64{1, 0, 1}, nil},
		{"ones by a limb of ones", []uint64{top, top, top}, []uint64{top}, []uint64{1, 1, 1}, nil},
		{"two highest limbs that are the same", []uint64{0, 0, 1 << 63}, []uint64{1, 1 << 63}, []uint64{top}, []uint64{1, 1<<63 - 1}},
		{"a quotient with a nought in between", []uint64{1, 0, 0, 3}, []uint64{0, 3}, []uint64{0, 0, 1}, []uint64{1}},
	} {
		quotient, rest, ok := Divide(c.a, c.b)
		if !ok || !slices.Equal(quotient, c.quotient) || !slices.Equal(rest, c.left) {
			t.Errorf("%s: %v, %v, %v", c.what, quotient, rest, ok)
		}
		divides(t, c.a, c.b)
	}
}

// P2.1: by 0 there is nothing, in each of its forms.
func TestDivideByNought(t *testing.T) {
	for _, nought := range [][]uint64{nil, {}, {0}, {0, 0}, make([]uint64, 9, 12)} {
		for _, a := range append(numbers(), made(20)...) {
			quotient, rest, ok := Divide(a, nought)
			if ok || len(quotient) != 0 || len(rest) != 0 {
				t.Errorf("%v by %v: %v, %v, %v", a, nought, quotient, rest, ok)
			}
		}
	}
}

// P2.2: by each power of 2 the number is parted at a bit.
func TestDivideByPowersOfTwo(t *testing.T) {
	for _, a := range append(numbers(), made(20)...) {
		for i := range uint(64*len(a) + 2) {
			power := new(big.Int).Lsh(big.NewInt(1), i)
			divides(t, a, number(power))
			divides(t, a, number(power.Add(power, big.NewInt(1))))
			divides(t, a, number(power.Sub(power, big.NewInt(2))))
		}
	}
}

// P2.2: a product, and less than one factor more, gives the other factor.
func TestProductAndMore(t *testing.T) {
	check := func(a, b, more *big.Int) {
		whole := new(big.Int).Mul(a, b)
		quotient, rest, ok := Divide(number(whole.Add(whole, more)), number(b))
		if !ok {
			t.Errorf("%v by %v: none", whole, b)
		}
		is(t, "the other factor", quotient, a)
		is(t, "what was more", rest, more)
	}
	pairs(func(a, b []uint64) {
		x, y := value(a), value(b)
		if y.Sign() == 0 {
			return
		}
		least, most := new(big.Int), new(big.Int).Sub(y, big.NewInt(1))
		half := new(big.Int).Rsh(most, 1)
		for _, more := range []*big.Int{least, half, most} {
			check(x, y, more)
		}
	})
}

// Guesses that are too great by 1 and by 2, in the highest limb and in others.
func TestDivideGuessesTooGreat(t *testing.T) {
	limbs := []uint64{0, 1, 2, 1<<63 - 1, 1 << 63, 1<<63 + 1, top - 1, top}
	seen := map[int]int{}
	for _, high := range []uint64{1, 1<<63 - 1, 1 << 63, 1<<63 + 1, top} {
		for _, low := range limbs {
			for _, x := range limbs {
				for _, y := range limbs {
					for _, z := range limbs {
						a, b := []uint64{x, y, z}, []uint64{low, high}
						divides(t, a, b)
						divides(t, append([]uint64{7}, a...), b)
						seen[tooGreat(a, b)]++
					}
				}
			}
		}
	}
	if seen[1] == 0 || seen[2] == 0 {
		t.Errorf("no such guess is among them: %v", seen)
	}
}

// tooGreat answers by how much the guess for a's lowest quotient limb is too
// great, where a has three limbs, b two with the highest bit set, and the
// quotient one; 0 for all others.
func tooGreat(a, b []uint64) int {
	quotient := new(big.Int).Quo(value(a), value(b))
	if b[1] < 1<<63 || !quotient.IsUint64() {
		return 0
	}
	return int(guess(a[2], a[1], b[1]) - quotient.Uint64())
}

// P1: limbs beside limbs of all lengths.
func TestAllLengths(t *testing.T) {
	r := rand.New(rand.NewSource(3))
	for n := range 34 {
		for m := range 34 {
			a, b := make([]uint64, n), make([]uint64, m)
			for i := range a {
				a[i] = r.Uint64()
			}
			for i := range b {
				b[i] = r.Uint64()
			}
			is(t, "Mul", Mul(a, b), new(big.Int).Mul(value(a), value(b)))
			divides(t, a, b)
		}
	}
}

// P1: a long carry and a long borrow end, too.
func TestGreat(t *testing.T) {
	ones := slices.Repeat([]uint64{top}, 3000)
	product := Mul(ones, ones)
	is(t, "its square", product, new(big.Int).Mul(value(ones), value(ones)))
	divides(t, product, ones)
	divides(t, product, []uint64{3})
	divides(t, product, ones[:1501])
	if got := Mul(make([]uint64, 3000), make([]uint64, 3000)); len(got) != 0 {
		t.Errorf("many noughts: %v", got)
	}
}

// guarded is a within a longer list, so that it has spare room; whole is that
// list.
func guarded(a []uint64) (inside, whole []uint64) {
	whole = append(slices.Clone(a), 77, 78, 79)
	return whole[:len(a)], whole
}

// calls has all answers that are lists.
func calls(a, b []uint64) [][]uint64 {
	quotient, rest, _ := Divide(a, b)
	other, left, _ := Divide(b, a)
	return [][]uint64{Mul(a, b), Mul(b, a), quotient, rest, other, left}
}

// Rule 3: what is handed in is not changed, its spare room neither, nor by
// what becomes of an answer afterwards; nor do two answers share memory.
func TestArgumentsStay(t *testing.T) {
	check := func(a, b []uint64) {
		x, wholeX := guarded(a)
		y, wholeY := guarded(b)
		beforeX, beforeY := slices.Clone(wholeX), slices.Clone(wholeY)
		answers := calls(x, y)
		kept := make([][]uint64, len(answers))
		for i, answer := range answers {
			kept[i] = slices.Clone(answer)
		}
		for i, answer := range answers {
			if !slices.Equal(answer, kept[i]) {
				t.Errorf("%v and %v: an answer was changed by another's: %v", a, b, answer)
			}
			room := answer[:cap(answer)]
			for j := range room {
				room[j] = 0xbad
			}
		}
		if !slices.Equal(wholeX, beforeX) || !slices.Equal(wholeY, beforeY) {
			t.Errorf("%v and %v were changed: %v, %v", beforeX, beforeY, wholeX, wholeY)
		}
	}
	pairs(check)
	// One list as both.
	for _, a := range append(numbers(), made(60)...) {
		x, whole := guarded(a)
		before := slices.Clone(whole)
		is(t, "its square", Mul(x, x), new(big.Int).Mul(value(a), value(a)))
		divides(t, x, x)
		if !slices.Equal(whole, before) {
			t.Errorf("%v was changed: %v", before, whole)
		}
	}
}

// Rules 4 and 6: the same arguments come to the same, in whatever goroutine,
// whatever room there is behind them.
func TestManyAtOnce(t *testing.T) {
	all := append(numbers(), made(20)...)
	want := make([][][]uint64, len(all))
	for i, a := range all {
		want[i] = calls(slices.Clip(slices.Clone(a)), all[len(all)-1-i])
	}
	var group sync.WaitGroup
	for range 8 {
		group.Go(func() {
			for i, a := range all {
				x, _ := guarded(a)
				if !slices.EqualFunc(calls(x, all[len(all)-1-i]), want[i], slices.Equal) {
					t.Errorf("%v: another answer", a)
				}
			}
		})
	}
	group.Wait()
}

// P1: no call panics, at any arguments; each answer is right at all of them.
func FuzzAll(f *testing.F) {
	f.Add([]byte{}, []byte{1})
	f.Add([]byte{255, 255, 255, 255, 255, 255, 255, 255, 255}, []byte{0, 0})
	f.Add(slices.Repeat([]byte{255}, 64), slices.Repeat([]byte{255}, 24))
	f.Add([]byte{0, 0, 0, 0, 0, 0, 0, 0, 1}, []byte{1})
	f.Fuzz(func(t *testing.T, p, q []byte) {
		a, b := limbs(p), limbs(q)
		is(t, "Mul", Mul(a, b), new(big.Int).Mul(value(a), value(b)))
		divides(t, a, b)
	})
}

// limbs reads bytes as limbs, eight a limb, the last one filled up.
func limbs(p []byte) []uint64 {
	var a []uint64
	for i, x := range p {
		if i%8 == 0 {
			a = append(a, 0)
		}
		a[i/8] |= uint64(x) << (i % 8 * 8)
	}
	return a
}
