package sponsor

import (
	"fmt"
	"math"
	"math/rand"
	"slices"
	"strconv"
	"strings"
	"sync"
	"testing"

	"lodge/api"
	"lodge/label"
	"lodge/tree"
)

// plant is a tree with halves of its own, to hold the lists against: a leaf
// has none.
type plant struct {
	who         api.Member
	left, right *plant
}

func life(node, inc int) api.Member { return api.Member{Node: node, Inc: inc} }

// nth is the member of the number n: no two numbers have the same.
func nth(n int) api.Member { return life(n%8, 1+n/8) }

func inner() api.Spot { return api.Spot{} }

func leaf(n int) api.Spot { return api.Spot{Leaf: true, Who: nth(n)} }

func at(level, index int) api.Label { return api.Label{Level: level, Index: index} }

// one and two are plants of a number's member, and of two halves.
func one(n int) *plant       { return &plant{who: nth(n)} }
func two(a, b *plant) *plant { return &plant{left: a, right: b} }

// list are a plant's spots, in layer 9's order.
func (p *plant) list() []api.Spot { return p.behind(nil) }

// behind lays a plant's spots behind l.
func (p *plant) behind(l []api.Spot) []api.Spot {
	if p == nil {
		return l
	}
	if p.left == nil {
		return append(l, api.Spot{Leaf: true, Who: p.who})
	}
	return p.right.behind(p.left.behind(append(l, inner())))
}

// parts are all parts of a plant by the ways to them from the root: 0 for each
// left half, 1 for each right one.
func (p *plant) parts() map[string]*plant {
	all := map[string]*plant{}
	p.into(all, "")
	return all
}

// into notes the parts of what is at the end of a way.
func (p *plant) into(all map[string]*plant, path string) {
	if p == nil {
		return
	}
	all[path] = p
	p.left.into(all, path+"0")
	p.right.into(all, path+"1")
}

// rightmost is the member that is reached by right halves alone.
func (p *plant) rightmost() api.Member {
	if p.left == nil {
		return p.who
	}
	return p.right.rightmost()
}

// spoken are the labels for which who stands at the end of a way speaks: its
// own, and those from which right halves alone lead to it, but the root's.
func spoken(path string) []api.Label {
	var all []api.Label
	for path != "" {
		all = append(all, along(path))
		if path[len(path)-1] == '0' {
			break
		}
		path = path[:len(path)-1]
	}
	return all
}

// along is the label of a place by the way to it. Its Index is that way, as a
// number of twos.
func along(path string) api.Label {
	index, _ := strconv.ParseInt("0"+path, 2, 64)
	return at(len(path), int(index))
}

// grow is a plant of members in that order: cut says how many of as many go to
// the left.
func grow(numbers []int, cut func(count int) int) *plant {
	if len(numbers) == 0 {
		return nil
	}
	if len(numbers) == 1 {
		return one(numbers[0])
	}
	middle := cut(len(numbers))
	return two(grow(numbers[:middle], cut), grow(numbers[middle:], cut))
}

func toLeft(count int) int  { return count - 1 }
func toRight(int) int       { return 1 }
func even(count int) int    { return count / 2 }
func unlike(count int) int  { return 1 + (count-1)/3 }
func byTurns(count int) int { return 1 + (count%2)*(count-2) }

// orders are some orders of as many numbers, so that the rightmost member of a
// part is now the first one of all of them, now the last, now another.
func orders(count int) [][]int {
	up := make([]int, count)
	for n := range up {
		up[n] = n
	}
	down := slices.Clone(up)
	slices.Reverse(down)
	return [][]int{up, down, rand.New(rand.NewSource(int64(count))).Perm(count)}
}

// shapes are all trees of members in that order.
func shapes(numbers []int) []*plant {
	if len(numbers) == 1 {
		return []*plant{one(numbers[0])}
	}
	var all []*plant
	for middle := 1; middle < len(numbers); middle++ {
		for _, left := range shapes(numbers[:middle]) {
			for _, right := range shapes(numbers[middle:]) {
				all = append(all, two(left, right))
			}
		}
	}
	return all
}

// plants are trees that may be, at most 60 high, of many shapes; nil is nothing.
func plants() []*plant {
	all := []*plant{nil, one(0), one(63)}
	for count := 2; count <= 6; count++ {
		all = append(all, shapes(orders(count)[2])...)
	}
	r := rand.New(rand.NewSource(13))
	random := func(count int) int { return 1 + r.Intn(count-1) }
	for _, count := range []int{2, 3, 4, 5, 7, 8, 13, 33, 60, 61} {
		for _, numbers := range orders(count) {
			all = append(all, grow(numbers, toLeft), grow(numbers, toRight), grow(numbers, byTurns))
		}
	}
	for _, count := range []int{7, 8, 13, 33, 60, 61, 62, 63, 64} {
		for _, numbers := range orders(count) {
			all = append(all, grow(numbers, even), grow(numbers, unlike), grow(numbers, random))
		}
	}
	return all
}

// tooHigh are trees that are more than 60 high.
func tooHigh() []*plant {
	var all []*plant
	for _, count := range []int{62, 63, 64, 65, 66, 300} {
		for _, cut := range []func(int) int{toLeft, toRight, byTurns} {
			all = append(all, grow(orders(count)[2], cut))
		}
	}
	return all
}

// crooked are lists that may be no trees.
func crooked() map[string][]api.Spot {
	return map[string][]api.Spot{
		"an inner spot alone":         {inner()},
		"inner spots alone":           make([]api.Spot, 1<<16),
		"two leaves":                  {leaf(0), leaf(1)},
		"leaves alone":                slices.Repeat([]api.Spot{leaf(0), leaf(1)}, 1<<15),
		"a leaf, then an inner spot":  {leaf(0), inner()},
		"one half alone":              {inner(), leaf(0)},
		"halves ahead of their spot":  {leaf(0), leaf(1), inner()},
		"three halves":                {inner(), leaf(0), leaf(1), leaf(2)},
		"two trees":                   {inner(), leaf(0), leaf(1), inner(), leaf(2), leaf(3)},
		"the right half not ended":    {inner(), leaf(0), inner(), leaf(1)},
		"the left half not ended":     {inner(), inner(), leaf(0), leaf(1)},
		"nothing in the right half":   {inner(), inner(), leaf(0), leaf(1), inner()},
		"somebody's inner spot":       {{Who: nth(1)}, leaf(0), leaf(1)},
		"one member twice":            {inner(), leaf(1), leaf(1)},
		"one member at both ends":     {inner(), inner(), leaf(1), leaf(0), leaf(1)},
		"nobody's leaf":               {{Leaf: true}},
		"nobody's leaf, not ended":    {inner(), leaf(0), inner(), {Leaf: true}},
		"nobody's leaf, to the right": {inner(), leaf(0), {Leaf: true}},
		"who may not be":              {inner(), {Leaf: true, Who: life(-1, math.MinInt)}, {Leaf: true, Who: life(math.MaxInt, 0)}},
		"65 leaves":                   grow(orders(65)[0], even).list(),
		"a high one":                  grow(orders(1 << 12)[0], toLeft).list(),
	}
}

// wrong are labels that may not be.
func wrong() []api.Label {
	return []api.Label{
		at(-1, 0), at(-1, 1), at(-1, -1), at(-2, 0), at(-60, 0), at(-61, 0), at(-64, 0), at(math.MinInt, 0), at(math.MinInt, math.MinInt), at(math.MinInt, math.MaxInt),
		at(61, 0), at(61, 1), at(61, 1<<60), at(61, 1<<61-1), at(62, 0), at(63, 1), at(64, 0), at(64, 1), at(128, 0), at(1<<32, 0), at(1<<32+1, 1), at(math.MaxInt, 0), at(math.MaxInt, math.MaxInt), at(math.MaxInt, math.MinInt),
		at(0, 1), at(0, 2), at(0, -1), at(0, -2), at(0, math.MaxInt), at(0, math.MinInt),
		at(1, 2), at(1, 3), at(1, 4), at(1, -1), at(1, -2), at(1, math.MaxInt), at(1, math.MinInt),
		at(2, 4), at(2, 5), at(2, -1), at(3, 8), at(32, 1<<32), at(32, -1<<32),
		at(60, 1<<60), at(60, 1<<60+1), at(60, 1<<61), at(60, -1), at(60, -1<<60), at(60, math.MaxInt), at(60, math.MinInt),
	}
}

// strangers are members that are in no tree of the tests.
func strangers() []api.Member {
	return []api.Member{{}, nth(400), life(7, 1<<31-1), life(8, 1), life(-1, 1), life(0, 0), life(0, -1), life(math.MaxInt, math.MaxInt), life(math.MinInt, math.MinInt)}
}

// speaker tells where somebody else speaks for a place.
func speaker(t *testing.T, l []api.Spot, x api.Label, want api.Member) {
	t.Helper()
	if got, ok := Of(l, x); got != want || !ok {
		t.Errorf("of %v, at %v: %v speaks, %v, want %v", l, x, got, ok, want)
	}
}

// nobody tells where somebody speaks for what is no place.
func nobody(t *testing.T, l []api.Spot, x api.Label) {
	t.Helper()
	if got, ok := Of(l, x); got != life(0, 0) || ok {
		t.Errorf("of %v, at %v: %v speaks, %v", l, x, got, ok)
	}
}

// speaks tells where a member speaks for other labels, or in another order.
func speaks(t *testing.T, l []api.Spot, m api.Member, want ...api.Label) {
	t.Helper()
	if got := Speaks(l, m); !slices.Equal(got, want) {
		t.Errorf("of %v, %v speaks for %v, want %v", l, m, got, want)
	}
}

// P13.1: the chapter's example, and who speaks for the others.
func TestExample(t *testing.T) {
	l := tree.Join(tree.Join(tree.Leaf(nth(0)), tree.Leaf(nth(1))), tree.Leaf(nth(2)))
	speaks(t, l, nth(0), at(2, 0))
	speaks(t, l, nth(1), at(2, 1), at(1, 0))
	speaks(t, l, nth(2), at(1, 1))
	speaker(t, l, at(2, 0), nth(0))
	speaker(t, l, at(2, 1), nth(1))
	speaker(t, l, at(1, 0), nth(1))
	speaker(t, l, at(1, 1), nth(2))
	speaker(t, l, at(0, 0), nth(2))
}

// P13.1: trees of other shapes, written out: ((5 1) (4 (0 2))).
func TestWrittenOut(t *testing.T) {
	l := []api.Spot{inner(), inner(), leaf(5), leaf(1), inner(), leaf(4), inner(), leaf(0), leaf(2)}
	speaks(t, l, nth(5), at(2, 0))
	speaks(t, l, nth(1), at(2, 1), at(1, 0))
	speaks(t, l, nth(4), at(2, 2))
	speaks(t, l, nth(0), at(3, 6))
	speaks(t, l, nth(2), at(3, 7), at(2, 3), at(1, 1))
	for x, n := range map[api.Label]int{at(0, 0): 2, at(1, 0): 1, at(1, 1): 2, at(2, 0): 5, at(2, 1): 1, at(2, 2): 4, at(2, 3): 2, at(3, 6): 0, at(3, 7): 2} {
		speaker(t, l, x, nth(n))
	}
	for _, x := range []api.Label{at(3, 0), at(3, 3), at(3, 4), at(3, 5), at(4, 12), at(4, 15), at(1, 2), at(2, 4), at(3, 8), at(1, -1)} {
		nobody(t, l, x)
	}
}

// P13.1: Of, at every label of trees of all shapes, the root's among them.
func TestOf(t *testing.T) {
	for _, p := range plants() {
		l := p.list()
		for path, part := range p.parts() {
			speaker(t, l, along(path), part.rightmost())
		}
	}
}

// P13.1: Of, 60 deep, at both ends of a level, and at the root.
func TestOfDeep(t *testing.T) {
	numbers := orders(61)[2]
	l := grow(numbers, toLeft).list()
	speaker(t, l, at(0, 0), nth(numbers[60]))
	speaker(t, l, at(59, 0), nth(numbers[1]))
	speaker(t, l, at(60, 0), nth(numbers[0]))
	speaker(t, l, at(60, 1), nth(numbers[1]))
	speaks(t, l, nth(numbers[0]), at(60, 0))
	speaks(t, l, nth(numbers[1]), at(60, 1), at(59, 0))
	speaks(t, l, nth(numbers[60]), at(1, 1))
	nobody(t, l, at(60, 2))
	nobody(t, l, at(61, 0))
	l = grow(numbers, toRight).list()
	var way []api.Label
	for level := 60; level > 0; level-- {
		way = append(way, at(level, 1<<level-1))
		speaker(t, l, at(level, 1<<level-1), nth(numbers[60]))
		speaker(t, l, at(level, 1<<level-2), nth(numbers[level-1]))
		speaks(t, l, nth(numbers[level-1]), at(level, 1<<level-2))
	}
	speaks(t, l, nth(numbers[60]), way...)
	nobody(t, l, at(60, 1<<60-3))
	nobody(t, l, at(61, 1<<61-1))
}

// P13.1: Of, below each leaf, deeper than the tree, and at labels that may not
// be: zero and false.
func TestOfNowhere(t *testing.T) {
	for _, p := range plants() {
		l, parts := p.list(), p.parts()
		for path, part := range parts {
			if part.left != nil {
				continue
			}
			for _, more := range []string{"0", "1", "00", "01", "10", "11", strings.Repeat("0", 60-len(path)), strings.Repeat("1", 60-len(path))} {
				if len(path+more) <= 60 && more != "" {
					nobody(t, l, along(path+more))
				}
			}
		}
		for _, x := range wrong() {
			nobody(t, l, x)
		}
		for level := range 61 {
			for _, digit := range []string{"0", "1"} {
				if path := strings.Repeat(digit, level); parts[path] == nil {
					nobody(t, l, along(path))
				}
			}
		}
	}
}

// P13.1: Of, at all labels of the first levels: somebody at those of the tree's
// places, and nobody at others.
func TestOfAll(t *testing.T) {
	for _, p := range plants() {
		l, want := p.list(), map[api.Label]api.Member{}
		for path, part := range p.parts() {
			want[along(path)] = part.rightmost()
		}
		for level := -1; level <= 7; level++ {
			for index := -2; index <= 1<<max(level, 0)+1; index++ {
				if who, there := want[at(level, index)]; there {
					speaker(t, l, at(level, index), who)
				} else {
					nobody(t, l, at(level, index))
				}
			}
		}
	}
}

// P13.1: Speaks, of each member of trees of all shapes: in the order of its way,
// its own label first, and without the root's.
func TestSpeaks(t *testing.T) {
	for _, p := range plants() {
		l := p.list()
		for path, part := range p.parts() {
			if part.left == nil {
				speaks(t, l, part.who, spoken(path)...)
			}
		}
	}
}

// P13.1: Speaks, held against layer 10's Way and Of: those labels of it for
// which the member speaks, but the last one, which is the root's.
func TestSpeaksOnTheWay(t *testing.T) {
	for _, p := range plants() {
		l := p.list()
		for _, m := range tree.Leaves(l) {
			way := label.Way(l, m)
			var want []api.Label
			for _, x := range way[:len(way)-1] {
				if who, _ := Of(l, x); who == m {
					want = append(want, x)
				}
			}
			speaks(t, l, m, want...)
			if got := Speaks(l, m); len(way) > 1 && (len(got) == 0 || got[0] != way[0]) {
				t.Errorf("of %v, %v stands at %v and speaks for %v", l, m, way[0], got)
			}
		}
	}
}

// P13.1: Speaks, of who isn't in the tree: the same node in another life, the
// same life of another node, and who may be no member: none.
func TestSpeaksOfOthers(t *testing.T) {
	for _, p := range plants() {
		l := p.list()
		for _, m := range tree.Leaves(l) {
			for _, other := range []api.Member{life(m.Node, m.Inc+100), life(m.Node, m.Inc-100), life(m.Node, 0), life(m.Node, -m.Inc), life(m.Node+100, m.Inc), life(-1-m.Node, m.Inc), life(m.Node, m.Inc+1<<32), life(m.Node+1<<32, m.Inc)} {
				speaks(t, l, other)
			}
		}
		for _, m := range strangers() {
			speaks(t, l, m)
		}
	}
}

// P13.1: a node's two lives, both in the tree, are two members; a third one is
// none.
func TestLives(t *testing.T) {
	l := tree.Join(tree.Leaf(life(4, 1)), tree.Join(tree.Leaf(life(3, 2)), tree.Leaf(life(3, 1))))
	speaker(t, l, at(0, 0), life(3, 1))
	speaker(t, l, at(1, 0), life(4, 1))
	speaker(t, l, at(1, 1), life(3, 1))
	speaker(t, l, at(2, 2), life(3, 2))
	speaker(t, l, at(2, 3), life(3, 1))
	speaks(t, l, life(3, 1), at(2, 3), at(1, 1))
	speaks(t, l, life(3, 2), at(2, 2))
	speaks(t, l, life(4, 1), at(1, 0))
	speaks(t, l, life(3, 3))
	speaks(t, l, life(4, 2))
}

// P13.1: the only member of a tree speaks for the root, and below it for none.
func TestAlone(t *testing.T) {
	for _, m := range []api.Member{nth(0), nth(5), life(7, 1<<31-1)} {
		l := tree.Leaf(m)
		speaker(t, l, at(0, 0), m)
		speaks(t, l, m)
		speaks(t, l, life(m.Node, m.Inc+1))
		speaks(t, l, life(0, 0))
		for _, x := range []api.Label{at(1, 0), at(1, 1), at(60, 0), at(60, 1<<60-1), at(0, 1), at(-1, 0)} {
			nobody(t, l, x)
		}
	}
}

// P13.1: of nothing nobody speaks, at the root's label neither, and nobody for
// anything; who is in the spare room alone isn't there.
func TestNothing(t *testing.T) {
	room := []api.Spot{inner(), leaf(0), leaf(1)}
	for _, l := range [][]api.Spot{nil, {}, room[:0], room[3:]} {
		for _, x := range append(wrong(), at(0, 0), at(1, 0), at(1, 1), at(60, 0), at(60, 1<<60-1)) {
			nobody(t, l, x)
		}
		for _, m := range append(strangers(), nth(0), nth(1)) {
			speaks(t, l, m)
		}
	}
	speaker(t, room[1:2], at(0, 0), nth(0))
	speaks(t, room[1:2], nth(1))
}

// P13.2: each place below the root has just one member that speaks for it, the
// one that Of tells; all together speak for as many as there are below the root.
func TestEachHasOne(t *testing.T) {
	for _, p := range plants() {
		l := p.list()
		speakers, all := map[api.Label][]api.Member{}, 0
		for _, m := range tree.Leaves(l) {
			for _, x := range Speaks(l, m) {
				speakers[x] = append(speakers[x], m)
				all++
			}
		}
		for path := range p.parts() {
			x := along(path)
			who, ok := Of(l, x)
			if path != "" && (!ok || !slices.Equal(speakers[x], []api.Member{who})) {
				t.Errorf("of %v, at %v: %v speaks, and these say they do: %v", l, x, who, speakers[x])
			}
		}
		if want := max(len(l)-1, 0); all != want || len(speakers) != want {
			t.Errorf("of %v, all speak for %d places, %d different ones, want %d", l, all, len(speakers), want)
		}
	}
}

// P13.2: who speaks for an inner place speaks for its right half, too, and not
// for its left one.
func TestRightHalf(t *testing.T) {
	for _, p := range plants() {
		l := p.list()
		for path, part := range p.parts() {
			if part.left == nil {
				continue
			}
			who, ok := Of(l, along(path))
			right, is := Of(l, along(path+"1"))
			left, also := Of(l, along(path+"0"))
			if !ok || !is || !also || right != who || left == who {
				t.Errorf("of %v, at %v: %v speaks, for its halves %v and %v", l, along(path), who, left, right)
			}
			labels := Speaks(l, who)
			if !slices.Contains(labels, along(path+"1")) || slices.Contains(labels, along(path+"0")) || slices.Contains(labels, along(path)) != (path != "") {
				t.Errorf("of %v, %v speaks at %v, and for %v", l, who, along(path), labels)
			}
		}
	}
}

// askAll makes every call of l that a test can think of, and tells where one
// answers what no list allows.
func askAll(t *testing.T, what string, l []api.Spot) {
	t.Helper()
	labels := append(wrong(), at(0, 0), at(1, 0), at(1, 1), at(2, 0), at(2, 1), at(2, 2), at(2, 3), at(3, 0), at(60, 0), at(60, 1), at(60, 1<<60-1))
	for _, x := range labels {
		who, ok := Of(l, x)
		if !ok && who != life(0, 0) || ok && (!label.Right(x) || !slices.Contains(l, api.Spot{Leaf: true, Who: who})) {
			t.Errorf("%s: at %v: %v speaks, %v", what, x, who, ok)
		}
	}
	for _, m := range append(strangers(), nth(0), nth(1), nth(2), nth(40), nth(61), nth(62), nth(299), life(-1, math.MinInt), life(math.MaxInt, 0)) {
		got := Speaks(l, m)
		if len(got) != 0 && !slices.Contains(l, api.Spot{Leaf: true, Who: m}) {
			t.Errorf("%s: %v isn't there, and speaks for %v", what, m, got)
		}
		for i, x := range got {
			if who, ok := Of(l, x); who != m || !ok || x.Level < 1 || i > 0 && x.Level >= got[i-1].Level {
				t.Errorf("%s: %v speaks for %v", what, m, got)
			}
		}
	}
}

// P1: lists that may be no trees: no call panics, and who is told to speak is
// there.
func TestCrooked(t *testing.T) {
	for what, l := range crooked() {
		askAll(t, what, l)
	}
	for _, p := range plants() {
		l := p.list()
		for _, count := range []int{1, 2, 3, len(l) / 2, len(l) - 2, len(l) - 1} {
			if count > 0 && count < len(l) {
				askAll(t, fmt.Sprint("cut off: ", l[:count]), l[:count])
				askAll(t, fmt.Sprint("cut off ahead: ", l[count:]), l[count:])
			}
		}
	}
}

// P1: trees that are more than 60 high: no call panics; at the places that
// labels reach the rightmost ones speak, and who stands deeper for none.
func TestTooHigh(t *testing.T) {
	for i, p := range tooHigh() {
		l := p.list()
		askAll(t, fmt.Sprint("too high ", i), l)
		for path, part := range p.parts() {
			if len(path) > 60 {
				nobody(t, l, at(len(path), 0))
				speaks(t, l, part.rightmost())
				continue
			}
			speaker(t, l, along(path), part.rightmost())
			if part.left == nil {
				speaks(t, l, part.who, spoken(path)...)
			}
		}
	}
}

// Rule 3: what is handed in is as it was, its spare room too, and no answer
// shares memory with another.
func TestNothingChanges(t *testing.T) {
	lists := crooked()
	for i, p := range append(plants(), tooHigh()...) {
		lists[fmt.Sprint("tree ", i)] = p.list()
	}
	for what, given := range lists {
		all := slices.Concat(given, []api.Spot{leaf(90), inner(), leaf(91), leaf(92)}, make([]api.Spot, len(given)))
		was := slices.Clone(all)
		l := all[:len(given)]
		for _, x := range []api.Label{at(0, 0), at(1, 0), at(1, 1), at(60, 0), at(61, 0), at(-1, -1)} {
			Of(l, x)
		}
		members := tree.Leaves(l)
		if len(members) > 4 {
			members = append(members[:2], members[len(members)-2:]...)
		}
		for _, m := range append(members, nth(90), api.Member{}) {
			got, other := Speaks(l, m), Speaks(l, m)
			again := slices.Clone(got)
			clear(other[:cap(other)])
			if !slices.Equal(got, again) {
				t.Errorf("%s: two answers share memory", what)
			}
			clear(got[:cap(got)])
		}
		if !slices.Equal(all, was) {
			t.Errorf("%s: is changed", what)
		}
	}
}

// Rules 4 and 6: the same arguments come to the same, in whatever goroutine.
func TestManyAtOnce(t *testing.T) {
	p := grow(orders(61)[2], byTurns)
	l, parts := p.list(), p.parts()
	var workers sync.WaitGroup
	for range 8 {
		workers.Go(func() {
			for path, part := range parts {
				if who, ok := Of(l, along(path)); who != part.rightmost() || !ok {
					t.Error("at once: not the same")
				}
				if part.left == nil && !slices.Equal(Speaks(l, part.who), spoken(path)) {
					t.Error("at once: not the same labels")
				}
			}
		})
	}
	workers.Wait()
}

// planted is the plant of a list that may be a tree.
func planted(l []api.Spot) *plant {
	if len(l) == 0 {
		return nil
	}
	if l[0].Leaf {
		return &plant{who: l[0].Who}
	}
	a, b, _ := tree.Halves(l)
	return two(planted(a), planted(b))
}

// listOf makes a list of any kind out of bytes, one a spot.
func listOf(raw []byte) []api.Spot {
	l := make([]api.Spot, len(raw))
	for i, b := range raw {
		if b >= 8 {
			l[i] = api.Spot{Leaf: true, Who: life(int(b%8), int(b/8))}
		}
	}
	return l
}

// P1: no call panics, at any arguments; each answer is right of whatever may be
// a tree.
func FuzzAll(f *testing.F) {
	for _, p := range append(plants(), tooHigh()...) {
		raw := []byte{}
		for _, spot := range p.list() {
			raw = append(raw, byte(8*spot.Who.Inc+spot.Who.Node))
		}
		f.Add(raw, 2, 1, 1, 1)
	}
	for _, x := range wrong() {
		f.Add([]byte{0, 0, 8, 9, 10}, x.Level, x.Index, x.Level, x.Index)
	}
	f.Fuzz(func(t *testing.T, raw []byte, level, index, node, inc int) {
		l, x, m := listOf(raw), at(level, index), life(node, inc)
		askAll(t, "any list", l)
		who, ok := Of(l, x)
		labels := Speaks(l, m)
		if !slices.Equal(l, listOf(raw)) {
			t.Error("the list is changed")
		}
		if !tree.Right(l) || tree.Height(l) > 60 {
			return
		}
		there, found := false, false
		for path, part := range planted(l).parts() {
			speaker(t, l, along(path), part.rightmost())
			if part.left == nil {
				speaks(t, l, part.who, spoken(path)...)
			}
			there = there || along(path) == x
			found = found || part.left == nil && part.who == m
		}
		if ok != there || !ok && who != life(0, 0) || !found && len(labels) != 0 {
			t.Errorf("of %v, at %v: %v speaks, %v; %v speaks for %v", l, x, who, ok, m, labels)
		}
	})
}
