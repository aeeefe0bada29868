package prune

import (
	"fmt"
	"math"
	"math/rand"
	"slices"
	"sync"
	"testing"

	"lodge/api"
	"lodge/tree"
)

// plant is a tree with halves of its own, to hold the lists against: a leaf
// has none.
type plant struct {
	who         api.Member
	left, right *plant
}

func life(node, inc int) api.Member { return api.Member{Node: node, Inc: inc} }

// nth is the member of the number n: no two numbers have the same.
func nth(n int) api.Member { return life(n%8, 1+n/8) }

// among are the members of these numbers.
func among(numbers ...int) []api.Member {
	var who []api.Member
	for _, n := range numbers {
		who = append(who, nth(n))
	}
	return who
}

func inner() api.Spot { return api.Spot{} }

func leaf(n int) api.Spot { return api.Spot{Leaf: true, Who: nth(n)} }

// one and two are plants of a number's member, and of two halves.
func one(n int) *plant       { return &plant{who: nth(n)} }
func two(a, b *plant) *plant { return &plant{left: a, right: b} }

// list are a plant's spots, in layer 9's order.
func (p *plant) list() []api.Spot { return p.behind(nil) }

// behind lays a plant's spots behind l.
func (p *plant) behind(l []api.Spot) []api.Spot {
	if p == nil {
		return l
	}
	if p.left == nil {
		return append(l, api.Spot{Leaf: true, Who: p.who})
	}
	return p.right.behind(p.left.behind(append(l, inner())))
}

// without is the plant without all leaves that don't stay: the chapter's rule,
// word by word.
func (p *plant) without(stays func(api.Member) bool) *plant {
	if p == nil {
		return nil
	}
	if p.left == nil {
		if stays(p.who) {
			return p
		}
		return nil
	}
	left, right := p.left.without(stays), p.right.without(stays)
	if left == nil {
		return right
	}
	if right == nil {
		return left
	}
	return two(left, right)
}

// only is the plant without all leaves that aren't among keep.
func (p *plant) only(keep []api.Member) []api.Spot {
	return p.without(func(who api.Member) bool { return slices.Contains(keep, who) }).list()
}

// grow is a plant of the members from first up to below end: cut says how many
// of as many go to the left.
func grow(first, end int, cut func(count int) int) *plant {
	if first >= end {
		return nil
	}
	if end-first == 1 {
		return one(first)
	}
	middle := first + cut(end-first)
	return two(grow(first, middle, cut), grow(middle, end, cut))
}

func toLeft(count int) int  { return count - 1 }
func toRight(int) int       { return 1 }
func even(count int) int    { return count / 2 }
func unlike(count int) int  { return 1 + (count-1)/3 }
func byTurns(count int) int { return 1 + (count%2)*(count-2) }

// plants are trees that may be, of many shapes, up to 63 high; nil is nothing.
func plants() []*plant {
	all := []*plant{nil, one(0)}
	r := rand.New(rand.NewSource(11))
	random := func(count int) int { return 1 + r.Intn(count-1) }
	for _, count := range []int{2, 3, 4, 5, 7, 8, 13, 33, 61, 63, 64} {
		for _, cut := range []func(int) int{toLeft, toRight, even, unlike, byTurns, random, random} {
			all = append(all, grow(0, count, cut))
		}
	}
	return all
}

// shapes are all trees of the members from first up to below end.
func shapes(first, end int) []*plant {
	if end-first == 1 {
		return []*plant{one(first)}
	}
	var all []*plant
	for middle := first + 1; middle < end; middle++ {
		for _, left := range shapes(first, middle) {
			for _, right := range shapes(middle, end) {
				all = append(all, two(left, right))
			}
		}
	}
	return all
}

// chosen are those of who whose bit is set.
func chosen(who []api.Member, bits uint64) []api.Member {
	var keep []api.Member
	for i, m := range who {
		if bits>>i&1 == 1 {
			keep = append(keep, m)
		}
	}
	return keep
}

// choices are some of the choices of as many members: none, all, each one,
// all but each one, every other one, both ends, and some at random.
func choices(count int) []uint64 {
	all := []uint64{0, math.MaxUint64, 0x5555555555555555, 0xaaaaaaaaaaaaaaaa, 1<<count - 1, 1<<(count/2) - 1, ^uint64(1<<(count/2) - 1)}
	r := rand.New(rand.NewSource(int64(count)))
	for i := range count {
		all = append(all, 1<<i, ^uint64(1<<i), 1|1<<i, r.Uint64(), r.Uint64()&r.Uint64()&r.Uint64(), r.Uint64()|r.Uint64()|r.Uint64())
	}
	return all
}

// strangers are members that no plant has, and who may be no members.
func strangers() []api.Member {
	return []api.Member{{}, life(0, 90), life(7, 1<<31-1), life(8, 1), life(-1, 1), life(0, 0), life(0, -1), life(1<<32, 1), life(0, 1<<32+1), life(math.MaxInt, math.MaxInt), life(math.MinInt, math.MinInt)}
}

// crooked are lists that may be no trees.
func crooked() map[string][]api.Spot {
	return map[string][]api.Spot{
		"an inner spot alone":         {inner()},
		"inner spots alone":           make([]api.Spot, 1<<16),
		"two leaves":                  {leaf(0), leaf(1)},
		"leaves alone":                slices.Repeat([]api.Spot{leaf(0), leaf(1)}, 1<<15),
		"a leaf, then an inner spot":  {leaf(0), inner()},
		"one half alone":              {inner(), leaf(0)},
		"halves ahead of their spot":  {leaf(0), leaf(1), inner()},
		"three halves":                {inner(), leaf(0), leaf(1), leaf(2)},
		"two trees":                   {inner(), leaf(0), leaf(1), inner(), leaf(2), leaf(3)},
		"the right half not ended":    {inner(), leaf(0), inner(), leaf(1)},
		"the left half not ended":     {inner(), inner(), leaf(0), leaf(1)},
		"nothing in the right half":   {inner(), inner(), leaf(0), leaf(1), inner()},
		"somebody's inner spot":       {{Who: nth(1)}, leaf(0), leaf(1)},
		"one member twice":            {inner(), leaf(1), leaf(1)},
		"one twice, in both halves":   {inner(), inner(), leaf(0), leaf(1), inner(), leaf(2), leaf(0)},
		"nobody's leaf":               {{Leaf: true}},
		"nobody's leaf, to the right": {inner(), leaf(0), {Leaf: true}},
		"who may not be":              {inner(), {Leaf: true, Who: life(-1, math.MinInt)}, {Leaf: true, Who: life(math.MaxInt, 0)}},
		"65 leaves":                   grow(0, 65, even).list(),
		"65 leaves, too high":         grow(0, 65, toLeft).list(),
		"as high as is promised":      grow(0, 1<<16, toLeft).list(),
		"as high, to the right":       grow(0, 1<<16, toRight).list(),
	}
}

// P11.1: the chapter's example, and what else is left of that tree.
func TestExample(t *testing.T) {
	l := tree.Join(tree.Join(tree.Leaf(nth(0)), tree.Leaf(nth(1))), tree.Leaf(nth(2)))
	for n, want := range [][]api.Spot{{inner(), leaf(1), leaf(2)}, {inner(), leaf(0), leaf(2)}, {inner(), leaf(0), leaf(1)}} {
		if got := Without(l, nth(n)); !slices.Equal(got, want) {
			t.Errorf("without %d: %v", n, got)
		}
	}
	for n := range 3 {
		if got := Only(l, among(n)); !slices.Equal(got, []api.Spot{leaf(n)}) {
			t.Errorf("only %d: %v", n, got)
		}
	}
}

// P11.1: where a half is gone, the other one takes the place of both: at the
// root and further down, to the left and to the right, a leaf and more.
func TestTakesThePlace(t *testing.T) {
	low, high := two(one(0), one(1)), two(one(2), one(3))
	for _, c := range []struct {
		what string
		p    *plant
		gone []int
		want *plant
	}{
		{"the root's left half, a leaf", two(one(0), high), []int{0}, high},
		{"the root's left half, two", two(low, high), []int{0, 1}, high},
		{"the root's left half, for a leaf", two(low, one(2)), []int{0, 1}, one(2)},
		{"the root's right half, a leaf", two(low, one(2)), []int{2}, low},
		{"the root's right half, two", two(low, high), []int{2, 3}, low},
		{"the root's right half, for a leaf", two(one(0), high), []int{2, 3}, one(0)},
		{"a left half in the left one", two(low, high), []int{0}, two(one(1), high)},
		{"a right half in the left one", two(low, high), []int{1}, two(one(0), high)},
		{"a left half in the right one", two(low, high), []int{2}, two(low, one(3))},
		{"a right half in the right one", two(low, high), []int{3}, two(low, one(2))},
		{"a half in each", two(low, high), []int{0, 3}, two(one(1), one(2))},
		{"a left half, for two, in the left one", two(two(one(4), low), high), []int{4}, two(low, high)},
		{"a right half, for two, in the left one", two(two(low, one(4)), high), []int{4}, two(low, high)},
		{"a left half, for two, in the right one", two(low, two(one(4), high)), []int{4}, two(low, high)},
		{"a right half, for two, in the right one", two(low, two(high, one(4))), []int{4}, two(low, high)},
		{"two, in the left one", two(two(low, one(4)), high), []int{0, 1}, two(one(4), high)},
		{"two, in the right one", two(low, two(one(4), high)), []int{2, 3}, two(low, one(4))},
		{"a half, and one in the other half", two(two(low, one(4)), high), []int{1, 2, 3}, two(one(0), one(4))},
		{"halves one above the other", two(two(two(one(0), one(1)), one(2)), one(3)), []int{1, 2}, two(one(0), one(3))},
		{"all but the deepest", two(one(4), two(two(two(one(0), one(1)), one(2)), one(3))), []int{4, 0, 2, 3}, one(1)},
		{"all", two(low, high), []int{0, 1, 2, 3}, nil},
	} {
		stays := slices.DeleteFunc(tree.Leaves(c.p.list()), func(m api.Member) bool { return slices.Contains(among(c.gone...), m) })
		if got := Only(c.p.list(), stays); !slices.Equal(got, c.want.list()) {
			t.Errorf("%s: %v, want %v", c.what, got, c.want.list())
		}
		got := c.p.list()
		for _, m := range among(c.gone...) {
			got = Without(got, m)
		}
		if !slices.Equal(got, c.want.list()) {
			t.Errorf("%s, one by one: %v, want %v", c.what, got, c.want.list())
		}
	}
}

// P11.1: every choice of members of every tree of up to six of them.
func TestEveryChoice(t *testing.T) {
	for count := 1; count <= 6; count++ {
		for _, p := range shapes(0, count) {
			l := p.list()
			for bits := range uint64(1) << count {
				keep := chosen(tree.Leaves(l), bits)
				if got := Only(l, keep); !slices.Equal(got, p.only(keep)) {
					t.Errorf("only %v of %v: %v, want %v", keep, l, got, p.only(keep))
				}
			}
		}
	}
}

// P11.1: many choices of members of trees of all shapes.
func TestOnly(t *testing.T) {
	for _, p := range plants() {
		l := p.list()
		for _, bits := range choices(64) {
			keep := chosen(tree.Leaves(l), bits)
			if got := Only(l, keep); !slices.Equal(got, p.only(keep)) {
				t.Errorf("only %v of %v: %v, want %v", keep, l, got, p.only(keep))
			}
		}
	}
}

// P11.1: trees 60 deep, written out: who is left of the deepest, the least
// deep, and some of between.
func TestDeep(t *testing.T) {
	left, right := grow(0, 61, toLeft).list(), grow(0, 61, toRight).list()
	for _, l := range [][]api.Spot{left, right} {
		if tree.Height(l) != 60 {
			t.Fatalf("%d high", tree.Height(l))
		}
		for _, c := range [][2]int{{0, 1}, {0, 60}, {59, 60}, {0, 30}, {30, 31}, {30, 60}} {
			want := []api.Spot{inner(), leaf(c[0]), leaf(c[1])}
			if got := Only(l, among(c[0], c[1])); !slices.Equal(got, want) {
				t.Errorf("only %d and %d: %v", c[0], c[1], got)
			}
		}
	}
	few := among(3, 20, 57)
	if got := Only(left, few); !slices.Equal(got, []api.Spot{inner(), inner(), leaf(3), leaf(20), leaf(57)}) {
		t.Errorf("of the one to the left: %v", got)
	}
	if got := Only(right, few); !slices.Equal(got, []api.Spot{inner(), leaf(3), inner(), leaf(20), leaf(57)}) {
		t.Errorf("of the one to the right: %v", got)
	}
}

// P11.1: none kept: nothing; all kept: the tree as it is, in whatever order
// they are told.
func TestNoneAndAll(t *testing.T) {
	for _, p := range plants() {
		l := p.list()
		for _, none := range [][]api.Member{nil, {}, tree.Leaves(l)[:0]} {
			if got := Only(l, none); len(got) != 0 {
				t.Errorf("none of %v: %v", l, got)
			}
		}
		all := tree.Leaves(l)
		if got := Only(l, all); !slices.Equal(got, l) {
			t.Errorf("all of %v: %v", l, got)
		}
		slices.Reverse(all)
		if got := Only(l, all); !slices.Equal(got, l) {
			t.Errorf("all of %v, told backwards: %v", l, got)
		}
	}
}

// P11.1: members that are not in the tree kept: as if they weren't told.
func TestStrangersKept(t *testing.T) {
	for _, p := range plants() {
		l := p.list()
		if got := Only(l, strangers()); len(got) != 0 {
			t.Errorf("strangers of %v: %v", l, got)
		}
		for _, bits := range choices(12) {
			keep := chosen(tree.Leaves(l), bits)
			if got := Only(l, slices.Concat(strangers(), keep, strangers())); !slices.Equal(got, p.only(keep)) {
				t.Errorf("only %v of %v, and strangers: %v", keep, l, got)
			}
		}
	}
}

// P11.1: one kept twice is there once.
func TestKeptTwice(t *testing.T) {
	for _, p := range plants() {
		l := p.list()
		for _, m := range tree.Leaves(l) {
			if got := Only(l, []api.Member{m, m}); !slices.Equal(got, tree.Leaf(m)) {
				t.Errorf("only %v of %v, told twice: %v", m, l, got)
			}
			if got := Only(l, append(tree.Leaves(l), m)); !slices.Equal(got, l) {
				t.Errorf("all of %v, and %v twice: %v", l, m, got)
			}
		}
	}
}

// P11.1: a member with the same Node and another Inc is another one, as is one
// with the same Inc and another Node.
func TestOtherLives(t *testing.T) {
	for _, p := range plants() {
		l := p.list()
		for _, m := range tree.Leaves(l) {
			for _, other := range []api.Member{life(m.Node, m.Inc+100), life(m.Node, -m.Inc), life(m.Node, 0), life(m.Node, m.Inc+1<<32), life(m.Node+100, m.Inc), life(-1-m.Node, m.Inc), life(m.Node+1<<32, m.Inc)} {
				if got := Only(l, []api.Member{other}); len(got) != 0 {
					t.Errorf("only %v of %v: %v", other, l, got)
				}
				if got := Without(l, other); !slices.Equal(got, l) {
					t.Errorf("%v without %v: %v", l, other, got)
				}
			}
		}
	}
	lives := two(&plant{who: life(3, 1)}, two(one(4), &plant{who: life(3, 2)})).list()
	if got := Only(lives, []api.Member{life(3, 2)}); !slices.Equal(got, tree.Leaf(life(3, 2))) {
		t.Errorf("only the second life: %v", got)
	}
	if got := Without(lives, life(3, 1)); !slices.Equal(got, lives[2:]) {
		t.Errorf("without the first life: %v", got)
	}
}

// P11.1: what is left without any one member: Only of all but it.
func TestWithout(t *testing.T) {
	for _, p := range plants() {
		l := p.list()
		for _, m := range tree.Leaves(l) {
			want := p.without(func(who api.Member) bool { return who != m }).list()
			if got := Without(l, m); !slices.Equal(got, want) {
				t.Errorf("%v without %v: %v, want %v", l, m, got, want)
			}
			rest := slices.DeleteFunc(tree.Leaves(l), func(who api.Member) bool { return who == m })
			if got := Only(l, rest); !slices.Equal(got, want) {
				t.Errorf("all of %v but %v: %v, want %v", l, m, got, want)
			}
		}
	}
}

// P11.1: without one that isn't there, the tree is as it was; of a leaf
// without its member, and of nothing, nothing is left.
func TestWithoutOthers(t *testing.T) {
	for _, p := range plants() {
		for _, m := range strangers() {
			if got := Without(p.list(), m); !slices.Equal(got, p.list()) {
				t.Errorf("%v without %v: %v", p.list(), m, got)
			}
		}
	}
	if got := Without([]api.Spot{leaf(5)}, nth(5)); len(got) != 0 {
		t.Errorf("a leaf without its member: %v", got)
	}
	room := []api.Spot{inner(), leaf(0), leaf(1)}
	for _, none := range [][]api.Spot{nil, {}, room[:0], room[3:]} {
		if got := Without(none, nth(0)); len(got) != 0 {
			t.Errorf("nothing without a member: %v", got)
		}
		if got := Only(none, among(0, 1)); len(got) != 0 {
			t.Errorf("of nothing: %v", got)
		}
	}
}

// P11.1, P11.2: who stays keeps the order, and what is kept may be a tree, no
// higher than it was.
func TestOrderAndHeight(t *testing.T) {
	check := func(what string, l, got []api.Spot, stays []api.Member) {
		t.Helper()
		if !slices.Equal(tree.Leaves(got), stays) {
			t.Errorf("%s: %v stay, want %v", what, tree.Leaves(got), stays)
		}
		if !tree.Right(got) || tree.Height(got) > tree.Height(l) {
			t.Errorf("%s: %v, %d high, of one %d high", what, got, tree.Height(got), tree.Height(l))
		}
	}
	for _, p := range plants() {
		l := p.list()
		for _, bits := range choices(64) {
			stays := chosen(tree.Leaves(l), bits)
			told := slices.Clone(stays)
			slices.Reverse(told)
			check(fmt.Sprintf("only %v", told), l, Only(l, told), stays)
		}
		for i, m := range tree.Leaves(l) {
			check(fmt.Sprintf("without %v", m), l, Without(l, m), slices.Delete(tree.Leaves(l), i, i+1))
		}
	}
}

// P11.1, P11.2: what is kept of a tree is what is kept of its halves, the left
// one's ahead.
func TestHalvesStay(t *testing.T) {
	for _, p := range plants() {
		l := p.list()
		a, b, ok := tree.Halves(l)
		if !ok {
			continue
		}
		for _, bits := range choices(64) {
			keep := chosen(tree.Leaves(l), bits)
			if got, want := Only(l, keep), tree.Join(Only(a, keep), Only(b, keep)); !slices.Equal(got, want) {
				t.Errorf("only %v of %v: %v, want %v", keep, l, got, want)
			}
		}
	}
}

// P11.1: two that go one after the other, in either order, leave the same: all
// but both.
func TestTwoGo(t *testing.T) {
	for _, p := range plants() {
		l := p.list()
		who := tree.Leaves(l)
		for i, m := range who {
			for _, other := range who[i:] {
				want := p.without(func(x api.Member) bool { return x != m && x != other }).list()
				if got := Without(Without(l, m), other); !slices.Equal(got, want) {
					t.Errorf("%v without %v, then %v: %v, want %v", l, m, other, got, want)
				}
				if got := Without(Without(l, other), m); !slices.Equal(got, want) {
					t.Errorf("%v without %v, then %v: %v, want %v", l, other, m, got, want)
				}
			}
		}
	}
}

// P11.1: what is kept of some, and then of others, is what is kept of those
// who are among both.
func TestSomeThenOthers(t *testing.T) {
	for _, p := range plants() {
		l := p.list()
		who := tree.Leaves(l)
		all := choices(10)
		for i, some := range all {
			for _, others := range all[i%3:] {
				want := p.only(chosen(who, some&others))
				if got := Only(Only(l, chosen(who, some)), chosen(who, others)); !slices.Equal(got, want) {
					t.Errorf("of %v first %x, then %x: %v, want %v", l, some, others, got, want)
				}
			}
		}
	}
	for _, p := range shapes(0, 4) {
		who := tree.Leaves(p.list())
		for some := range uint64(16) {
			for others := range uint64(16) {
				want := p.only(chosen(who, some&others))
				if got := Only(Only(p.list(), chosen(who, some)), chosen(who, others)); !slices.Equal(got, want) {
					t.Errorf("of %v first %x, then %x: %v, want %v", p.list(), some, others, got, want)
				}
			}
		}
	}
}

// inList tells where an answer has members that weren't in the list, or
// weren't to stay.
func inList(t *testing.T, what string, l, got []api.Spot, stays func(api.Member) bool) {
	t.Helper()
	there := map[api.Member]int{}
	for _, m := range tree.Leaves(l) {
		there[m]++
	}
	for _, m := range tree.Leaves(got) {
		there[m]--
		if there[m] < 0 || !stays(m) {
			t.Fatalf("%s: %v is left", what, m)
		}
	}
}

// askAll makes calls of l, and tells where one leaves who was to go.
func askAll(t *testing.T, what string, l []api.Spot) {
	t.Helper()
	for _, keep := range [][]api.Member{nil, strangers(), among(0), among(1), among(0, 1, 2), among(1, 1, 64)} {
		inList(t, what, l, Only(l, keep), func(who api.Member) bool { return slices.Contains(keep, who) })
	}
	for _, m := range append(strangers(), among(0, 1, 2, 64)...) {
		inList(t, what, l, Without(l, m), func(who api.Member) bool { return who != m })
	}
}

// P1: lists that may be no trees: no call panics, each ends, and nobody is left
// who was to go.
func TestCrooked(t *testing.T) {
	for what, l := range crooked() {
		askAll(t, what, l)
	}
	for _, p := range plants() {
		l := p.list()
		for count := range l {
			askAll(t, "cut off", l[:count])
			askAll(t, "cut off ahead", l[count:])
		}
	}
}

// Rule 3: what is handed in is as it was, its spare room too, and no answer
// shares memory with it, or with another.
func TestNothingChanges(t *testing.T) {
	lists := crooked()
	for i, p := range plants() {
		lists[fmt.Sprint("tree ", i)] = p.list()
	}
	for what, given := range lists {
		spots := append(slices.Clone(given), leaf(90), inner(), leaf(91), leaf(92))
		l := spots[:len(given)]
		members := append(append(among(0, 1, 2, 5, 60), strangers()...), among(3, 4, 90)...)
		keep := members[:5]
		spotsWere, membersWere := slices.Clone(spots), slices.Clone(members)
		for _, answer := range []func() []api.Spot{
			func() []api.Spot { return Only(l, keep) },
			func() []api.Spot { return Only(l, nil) },
			func() []api.Spot { return Without(l, nth(0)) },
			func() []api.Spot { return Without(l, nth(90)) },
		} {
			got, other := answer(), answer()
			was := slices.Clone(got)
			clear(other[:cap(other)])
			if !slices.Equal(got, was) {
				t.Errorf("%s: two answers share memory", what)
			}
			clear(got[:cap(got)])
		}
		if !slices.Equal(spots, spotsWere) || !slices.Equal(members, membersWere) {
			t.Errorf("%s: is changed, or shared", what)
		}
	}
}

// Rules 4 and 6: the same arguments come to the same, in whatever goroutine.
func TestManyAtOnce(t *testing.T) {
	p := grow(0, 64, even)
	l, keep := p.list(), among(1, 5, 6, 30, 31, 63)
	only, less := p.only(keep), p.without(func(who api.Member) bool { return who != nth(30) }).list()
	var workers sync.WaitGroup
	for range 8 {
		workers.Go(func() {
			for range 50 {
				if !slices.Equal(Only(l, keep), only) || !slices.Equal(Without(l, nth(30)), less) {
					t.Error("at once: not the same")
				}
			}
		})
	}
	workers.Wait()
}

// planted is the plant of a list that may be a tree.
func planted(l []api.Spot) *plant {
	if len(l) == 0 {
		return nil
	}
	if l[0].Leaf {
		return &plant{who: l[0].Who}
	}
	a, b, _ := tree.Halves(l)
	return two(planted(a), planted(b))
}

// P1: no call panics, at any arguments; each answer is right of whatever may be
// a tree.
func FuzzAll(f *testing.F) {
	for _, p := range plants() {
		l := p.list()
		raw := make([]byte, len(l))
		for i, spot := range l {
			if spot.Leaf {
				raw[i] = byte(8*spot.Who.Inc + spot.Who.Node)
			}
		}
		f.Add(raw, []byte{8, 9, 10, 40, 70}, 2, 1)
	}
	f.Add([]byte{0, 0, 8, 9, 10}, []byte{8}, 0, 1)
	f.Add([]byte{0, 8, 0, 9}, []byte{}, math.MinInt, math.MaxInt)
	f.Fuzz(func(t *testing.T, raw, rawKeep []byte, node, inc int) {
		l := make([]api.Spot, len(raw))
		for i, b := range raw {
			if b >= 8 {
				l[i] = api.Spot{Leaf: true, Who: life(int(b%8), int(b/8))}
			}
		}
		m := life(node, inc)
		keep := []api.Member{m}
		for _, b := range rawKeep {
			keep = append(keep, life(int(b%8), int(b/8)))
		}
		spotsWere, keepWas := slices.Clone(l), slices.Clone(keep)
		only, less := Only(l, keep), Without(l, m)
		inList(t, "only", l, only, func(who api.Member) bool { return slices.Contains(keep, who) })
		inList(t, "without", l, less, func(who api.Member) bool { return who != m })
		if tree.Right(l) {
			p := planted(l)
			if !slices.Equal(only, p.only(keep)) {
				t.Errorf("only %v of %v: %v", keep, l, only)
			}
			if !slices.Equal(less, p.without(func(who api.Member) bool { return who != m }).list()) {
				t.Errorf("%v without %v: %v", l, m, less)
			}
		}
		if !slices.Equal(l, spotsWere) || !slices.Equal(keep, keepWas) {
			t.Error("what was handed in is changed")
		}
	})
}
