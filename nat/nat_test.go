package nat

import (
	"math"
	"math/big"
	"math/rand"
	"slices"
	"sync"
	"testing"
)

const top = math.MaxUint64

// numbers are ordinary ones and edges; many have noughts on top.
func numbers() [][]uint64 {
	return [][]uint64{
		nil,
		{},
		{0},
		{0, 0, 0},
		{1},
		{1, 0},
		{2},
		{7, 0, 0},
		{1 << 63},
		{1<<63 - 1},
		{top},
		{top, 0},
		{0, 1},
		{0, 1, 0, 0},
		{top, top},
		{top, top, 0},
		{0, 0, 1},
		{1, 0, 1},
		{0, 0, 1 << 63},
		{top, 0, top},
		{0, top, 0, 1},
		{top, top, top, top},
		{0, 0, 0, 0, 1},
		{9, 1},
		{8, 2},
		{0x0123456789abcdef, 0xfedcba9876543210, 42},
	}
}

// made are numbers from a fixed seed, many of their limbs at the ends of the
// type.
func made(count int) [][]uint64 {
	r := rand.New(rand.NewSource(1))
	all := make([][]uint64, count)
	for i := range all {
		a := make([]uint64, r.Intn(7))
		for j := range a {
			a[j] = []uint64{0, 1, top, top - 1, 1 << 63, r.Uint64(), r.Uint64() >> 40}[r.Intn(7)]
		}
		all[i] = a
	}
	return all
}

// value is a as math/big has it: worked out byte by byte, by none of the
// package's own means.
func value(a []uint64) *big.Int {
	var raw []byte
	for _, limb := range slices.Backward(a) {
		for shift := 56; shift >= 0; shift -= 8 {
			raw = append(raw, byte(limb>>shift))
		}
	}
	return new(big.Int).SetBytes(raw)
}

// is tells where got is another number than want, or has a nought on top.
func is(t *testing.T, what string, got []uint64, want *big.Int) {
	t.Helper()
	if len(got) > 0 && got[len(got)-1] == 0 {
		t.Errorf("%s: a nought on top of %v", what, got)
	}
	if value(got).Cmp(want) != 0 {
		t.Errorf("%s: %v, want %v", what, got, want)
	}
}

func same(t *testing.T, what string, got, want int) {
	t.Helper()
	if got != want {
		t.Errorf("%s: %d, want %d", what, got, want)
	}
}

// each runs over all numbers, pairs over all of their pairs.
func each(check func(a []uint64)) {
	for _, a := range append(numbers(), made(200)...) {
		check(a)
	}
}

func pairs(check func(a, b []uint64)) {
	all := append(numbers(), made(60)...)
	for _, a := range all {
		for _, b := range all {
			check(a, b)
		}
	}
}

// P1.1: Trim.
func TestTrim(t *testing.T) {
	each(func(a []uint64) {
		is(t, "Trim", Trim(a), value(a))
	})
	if got := Trim([]uint64{5, 0, 7, 0, 0}); !slices.Equal(got, []uint64{5, 0, 7}) {
		t.Errorf("a nought that isn't on top: %v", got)
	}
}

// P1.1: Compare.
func TestCompare(t *testing.T) {
	pairs(func(a, b []uint64) {
		if got, want := Compare(a, b), value(a).Cmp(value(b)); got != want {
			t.Errorf("Compare(%v, %v): %d, want %d", a, b, got, want)
		}
	})
	same(t, "noughts on top", Compare([]uint64{1, 0, 0}, []uint64{1}), 0)
	same(t, "nothing and noughts", Compare(nil, []uint64{0, 0}), 0)
	same(t, "the higher limb holds", Compare([]uint64{9, 1}, []uint64{8, 2}), -1)
	same(t, "the longer one", Compare([]uint64{0, 1}, []uint64{top}), 1)
	same(t, "the longer one, noughts on top of the other", Compare([]uint64{0, 1}, []uint64{top, 0, 0, 0}), 1)
	same(t, "the ends of a limb", Compare([]uint64{0}, []uint64{top}), -1)
}

// P1.1: Add.
func TestAdd(t *testing.T) {
	pairs(func(a, b []uint64) {
		is(t, "Add", Add(a, b), new(big.Int).Add(value(a), value(b)))
	})
	// The chapter's example.
	if got := Add([]uint64{top, top}, []uint64{1}); !slices.Equal(got, []uint64{0, 0, 1}) {
		t.Errorf("2^128 less 1, and 1: %v", got)
	}
	if got := Add([]uint64{1}, []uint64{top, top, top, 0}); !slices.Equal(got, []uint64{0, 0, 0, 1}) {
		t.Errorf("a carry through several limbs into a nought on top: %v", got)
	}
	if got := Add([]uint64{top, 5, top}, []uint64{1, 0, 1}); !slices.Equal(got, []uint64{0, 6, 0, 1}) {
		t.Errorf("a carry that ends, and one more: %v", got)
	}
	if got := Add(nil, []uint64{}); len(got) != 0 {
		t.Errorf("nothing and nothing: %v", got)
	}
}

// P1.1: Sub.
func TestSub(t *testing.T) {
	pairs(func(a, b []uint64) {
		got, ok := Sub(a, b)
		want := new(big.Int).Sub(value(a), value(b))
		if ok != (want.Sign() >= 0) {
			t.Errorf("Sub(%v, %v): %v", a, b, ok)
		}
		if !ok {
			want.SetInt64(0)
		}
		is(t, "Sub", got, want)
	})
}

func TestSubEdges(t *testing.T) {
	for _, c := range []struct {
		what       string
		a, b, want []uint64
		ok         bool
	}{
		{"a borrow through several limbs", []uint64{0, 0, 0, 1}, []uint64{1}, []uint64{top, top, top}, true},
		{"a borrow that ends", []uint64{0, 6, 1}, []uint64{1, 0, 1}, []uint64{top, 5}, true},
		{"a borrow with the same limb in both", []uint64{0, 3, 2}, []uint64{1, 3}, []uint64{top, top, 1}, true},
		{"the same number", []uint64{4, 5, 6}, []uint64{4, 5, 6}, nil, true},
		{"the same number, noughts on top", []uint64{4}, []uint64{4, 0, 0}, nil, true},
		{"nothing less nothing", nil, []uint64{}, nil, true},
		{"nothing less noughts", nil, []uint64{0, 0}, nil, true},
		{"below 0 by 1", []uint64{1}, []uint64{2}, nil, false},
		{"below 0 in the higher limb", []uint64{9, 1}, []uint64{8, 2}, nil, false},
		{"below 0 for lack of limbs", []uint64{top}, []uint64{0, 1}, nil, false},
		{"below 0 with noughts on top", []uint64{0, 0, 0}, []uint64{1}, nil, false},
		{"below 0 by a borrow alone", []uint64{0, 1}, []uint64{1, 1}, nil, false},
		{"nothing less 1", nil, []uint64{1}, nil, false},
	} {
		got, ok := Sub(c.a, c.b)
		if ok != c.ok || !slices.Equal(got, c.want) {
			t.Errorf("%s: %v, %v", c.what, got, ok)
		}
	}
}

// P1.1: Bits.
func TestBits(t *testing.T) {
	each(func(a []uint64) {
		same(t, "Bits", Bits(a), value(a).BitLen())
	})
	same(t, "of nothing", Bits(nil), 0)
	same(t, "of noughts", Bits([]uint64{0, 0}), 0)
	same(t, "of 1", Bits([]uint64{1}), 1)
	same(t, "of a whole limb", Bits([]uint64{top}), 64)
	same(t, "of one more", Bits([]uint64{0, 1}), 65)
	same(t, "with noughts on top", Bits([]uint64{0, 1, 0, 0}), 65)
}

// P1.1: Bit.
func TestBit(t *testing.T) {
	each(func(a []uint64) {
		whole := value(a)
		for i := range 64*len(a) + 70 {
			same(t, "Bit", Bit(a, i), int(whole.Bit(i)))
		}
	})
}

func TestBitOutside(t *testing.T) {
	for _, a := range [][]uint64{nil, {}, {top}, {top, top, top}} {
		for _, i := range []int{math.MinInt, math.MinInt + 1, -65, -64, -63, -1, 64 * len(a), 64*len(a) + 1, math.MaxInt - 64, math.MaxInt} {
			same(t, "Bit below or above all", Bit(a, i), 0)
		}
	}
	same(t, "the lowest", Bit([]uint64{1, 0}, 0), 1)
	same(t, "the highest of a limb", Bit([]uint64{1 << 63, 0}, 63), 1)
	same(t, "the lowest of the next", Bit([]uint64{0, 1}, 64), 1)
}

// P1.1: Double.
func TestDouble(t *testing.T) {
	lowest := map[int]int64{
		0: 0, 1: 1, 2: 0, 3: 1, -1: 1, -2: 0, -3: 1,
		math.MaxInt: 1, math.MaxInt - 1: 0, math.MinInt: 0, math.MinInt + 1: 1,
	}
	each(func(a []uint64) {
		for bit, low := range lowest {
			want := new(big.Int).Lsh(value(a), 1)
			is(t, "Double", Double(a, bit), want.Add(want, big.NewInt(low)))
		}
	})
	if got := Double([]uint64{top, top}, 1); !slices.Equal(got, []uint64{top, top, 1}) {
		t.Errorf("a carry out of each limb: %v", got)
	}
	if got := Double([]uint64{1 << 63, 0, 0}, 0); !slices.Equal(got, []uint64{0, 1}) {
		t.Errorf("a carry into a nought on top: %v", got)
	}
	if got := Double(nil, math.MinInt); len(got) != 0 {
		t.Errorf("twice nothing: %v", got)
	}
}

// P1.2: sums go in any order.
func TestSumsInAnyOrder(t *testing.T) {
	all := append(numbers(), made(14)...)
	for _, a := range all {
		for _, b := range all {
			if ab, ba := Add(a, b), Add(b, a); !slices.Equal(ab, ba) {
				t.Fatalf("%v and %v: %v, the other way round %v", a, b, ab, ba)
			}
			for _, c := range all {
				if l, r := Add(Add(a, b), c), Add(a, Add(b, c)); !slices.Equal(l, r) {
					t.Fatalf("%v, %v and %v: %v, the last two first %v", a, b, c, l, r)
				}
			}
		}
	}
}

// P1.2, with Sub: what was added can be taken away again, either one.
func TestSumAndDifference(t *testing.T) {
	pairs(func(a, b []uint64) {
		got, ok := Sub(Add(a, b), b)
		if !ok || !slices.Equal(got, Trim(a)) {
			t.Errorf("%v and %v less the other: %v, %v", a, b, got, ok)
		}
	})
}

// guarded is a within a longer list, so that it has spare room; whole is that
// list.
func guarded(a []uint64) (inside, whole []uint64) {
	whole = append(slices.Clone(a), 77, 78, 79)
	return whole[:len(a)], whole
}

// calls has all calls that answer lists.
func calls(a, b []uint64) [][]uint64 {
	less, _ := Sub(a, b)
	more, _ := Sub(b, a)
	return [][]uint64{Trim(a), Trim(b), Add(a, b), less, more, Double(a, 0), Double(b, 1)}
}

// Rule 3: what is handed in is not changed, its spare room neither; nor by
// what becomes of an answer afterwards.
func TestArgumentsStay(t *testing.T) {
	check := func(a, b []uint64) {
		x, wholeX := guarded(a)
		y, wholeY := guarded(b)
		beforeX, beforeY := slices.Clone(wholeX), slices.Clone(wholeY)
		Compare(x, y)
		Bits(x)
		Bit(x, 1)
		for _, answer := range calls(x, y) {
			room := answer[:cap(answer)]
			for i := range room {
				room[i] = 0xbad
			}
		}
		if !slices.Equal(wholeX, beforeX) || !slices.Equal(wholeY, beforeY) {
			t.Errorf("%v and %v were changed: %v, %v", beforeX, beforeY, wholeX, wholeY)
		}
	}
	pairs(check)
	// One list as both.
	each(func(a []uint64) {
		x, whole := guarded(a)
		before := slices.Clone(whole)
		is(t, "twice", Add(x, x), new(big.Int).Lsh(value(a), 1))
		if rest, ok := Sub(x, x); !ok || len(rest) != 0 {
			t.Errorf("less itself: %v, %v", rest, ok)
		}
		same(t, "beside itself", Compare(x, x), 0)
		if !slices.Equal(whole, before) {
			t.Errorf("%v was changed: %v", before, whole)
		}
	})
}

// Rules 4 and 6: the same arguments come to the same, in whatever goroutine,
// whatever room there is behind them.
func TestManyAtOnce(t *testing.T) {
	all := append(numbers(), made(20)...)
	want := make([][][]uint64, len(all))
	for i, a := range all {
		want[i] = calls(slices.Clip(slices.Clone(a)), all[len(all)-1-i])
	}
	var group sync.WaitGroup
	for range 8 {
		group.Go(func() {
			for i, a := range all {
				x, _ := guarded(a)
				if !slices.EqualFunc(calls(x, all[len(all)-1-i]), want[i], slices.Equal) {
					t.Errorf("%v: another answer", a)
				}
			}
		})
	}
	group.Wait()
}

// P1: a long carry and a long borrow end, too.
func TestLong(t *testing.T) {
	long := slices.Repeat([]uint64{top}, 100000)
	sum := Add(long, []uint64{1})
	same(t, "its bits", Bits(sum), 64*100000+1)
	same(t, "its highest bit", Bit(sum, 64*100000), 1)
	back, ok := Sub(sum, []uint64{1})
	if !ok || !slices.Equal(back, long) {
		t.Error("a long borrow")
	}
	if got := Trim(make([]uint64, 100000)); len(got) != 0 {
		t.Error("many noughts")
	}
}

// A loop over limbs side by side may be left early.
func TestSideBySideLeftEarly(t *testing.T) {
	seen := 0
	for x, y := range sideBySide([]uint64{1, 2, 3}, []uint64{4}) {
		seen++
		if x == 2 {
			if y != 0 {
				t.Errorf("beyond the shorter one: %d", y)
			}
			break
		}
	}
	same(t, "limbs seen", seen, 2)
}

// P1: no call panics, at any arguments; each answer is right at all of them.
func FuzzAll(f *testing.F) {
	f.Add([]byte{}, []byte{1}, 0)
	f.Add([]byte{255, 255, 255, 255, 255, 255, 255, 255, 255}, []byte{0, 0}, math.MinInt)
	f.Add([]byte{0, 0, 0, 0, 0, 0, 0, 0, 1}, []byte{1}, math.MaxInt)
	f.Fuzz(func(t *testing.T, p, q []byte, i int) {
		a, b := limbs(p), limbs(q)
		x, y := value(a), value(b)
		is(t, "Trim", Trim(a), x)
		is(t, "Add", Add(a, b), new(big.Int).Add(x, y))
		same(t, "Compare", Compare(a, b), x.Cmp(y))
		same(t, "Bits", Bits(a), x.BitLen())
		rest, ok := Sub(a, b)
		if ok != (x.Cmp(y) >= 0) {
			t.Errorf("Sub(%v, %v): %v", a, b, ok)
		}
		if ok {
			is(t, "Sub", rest, new(big.Int).Sub(x, y))
		}
		if i < 0 {
			same(t, "Bit", Bit(a, i), 0)
		} else {
			same(t, "Bit", Bit(a, i), int(x.Bit(i)))
		}
		want := new(big.Int).Lsh(x, 1)
		is(t, "Double", Double(a, i), want.Add(want, big.NewInt(int64(i&1))))
	})
}

// limbs reads bytes as limbs, eight a limb, the last one filled up.
func limbs(p []byte) []uint64 {
	var a []uint64
	for i, x := range p {
		if i%8 == 0 {
			a = append(a, 0)
		}
		a[i/8] |= uint64(x) << (i % 8 * 8)
	}
	return a
}
