package graft

import (
	"fmt"
	"math"
	"math/bits"
	"math/rand"
	"slices"
	"strconv"
	"strings"
	"sync"
	"testing"

	"lodge/api"
	"lodge/prune"
	"lodge/tree"
)

// plant is a tree with halves of its own, to hold the lists against: a leaf
// has none.
type plant struct {
	who         api.Member
	left, right *plant
}

func life(node, inc int) api.Member { return api.Member{Node: node, Inc: inc} }

// nth is the member of the number n: no two numbers have the same.
func nth(n int) api.Member { return life(n%8, 1+n/8) }

func inner() api.Spot { return api.Spot{} }

func leaf(n int) api.Spot { return api.Spot{Leaf: true, Who: nth(n)} }

func at(level, index int) api.Label { return api.Label{Level: level, Index: index} }

// one and two are plants of a number's member, and of two halves.
func one(n int) *plant       { return &plant{who: nth(n)} }
func two(a, b *plant) *plant { return &plant{left: a, right: b} }

// list are a plant's spots, in layer 9's order.
func (p *plant) list() []api.Spot { return p.behind(nil) }

// behind lays a plant's spots behind l.
func (p *plant) behind(l []api.Spot) []api.Spot {
	if p == nil {
		return l
	}
	if p.left == nil {
		return append(l, api.Spot{Leaf: true, Who: p.who})
	}
	return p.right.behind(p.left.behind(append(l, inner())))
}

// high is how deep a plant's deepest leaf lies.
func (p *plant) high() int {
	if p == nil {
		return -1
	}
	if p.left == nil {
		return 0
	}
	return 1 + max(p.left.high(), p.right.high())
}

// count is how many members a plant has.
func (p *plant) count() int {
	if p == nil {
		return 0
	}
	if p.left == nil {
		return 1
	}
	return p.left.count() + p.right.count()
}

// first is a plant's first member: of the lowest node, of these the first life.
func (p *plant) first() api.Member {
	if p.left == nil {
		return p.who
	}
	a, b := p.left.first(), p.right.first()
	if a.Node < b.Node || a.Node == b.Node && a.Inc < b.Inc {
		return a
	}
	return b
}

// paths are the ways from the root to all of a plant's places: 0 for each left
// half, 1 for each right one.
func (p *plant) paths() []string {
	if p == nil {
		return nil
	}
	all := []string{""}
	if p.left == nil {
		return all
	}
	for _, path := range p.left.paths() {
		all = append(all, "0"+path)
	}
	for _, path := range p.right.paths() {
		all = append(all, "1"+path)
	}
	return all
}

// put is the plant with a spot at the end of a way, whose left half is what was
// there, and its right one more.
func (p *plant) put(path string, more *plant) *plant {
	if path == "" {
		return two(p, more)
	}
	if path[0] == '0' {
		return two(p.left.put(path[1:], more), p.right)
	}
	return two(p.left, p.right.put(path[1:], more))
}

// in is the plant with another one in the place at the end of a way.
func (p *plant) in(path string, with *plant) *plant {
	if path == "" {
		return with
	}
	if path[0] == '0' {
		return two(p.left.in(path[1:], with), p.right)
	}
	return two(p.left, p.right.in(path[1:], with))
}

// place is the way to the place for a tree of that height, by the chapter's
// words: one is put at each place, to see how high the whole gets.
func (p *plant) place(height int) string {
	more, found := grow(0, height+1, toLeft), []string{}
	for _, path := range p.paths() {
		if p.put(path, more).high() <= p.high() {
			found = append(found, path)
		}
	}
	slices.SortFunc(found, func(a, b string) int {
		if len(a) != len(b) {
			return len(a) - len(b)
		}
		return strings.Compare(b, a)
	})
	return append(found, "")[0]
}

// graft is the plant with more at the place for it.
func (p *plant) graft(more *plant) *plant {
	if p == nil {
		return more
	}
	if more == nil {
		return p
	}
	return p.put(p.place(more.high()), more)
}

// merge is one plant of many, by the chapter's words.
func merge(all []*plant) *plant {
	var whole *plant
	all = slices.DeleteFunc(slices.Clone(all), func(p *plant) bool { return p == nil })
	for len(all) > 0 {
		next := 0
		for i, p := range all {
			a, b := p.first(), all[next].first()
			earlier := a.Node < b.Node || a.Node == b.Node && a.Inc < b.Inc
			if p.count() > all[next].count() || p.count() == all[next].count() && earlier {
				next = i
			}
		}
		whole = whole.graft(all[next])
		all = slices.Delete(all, next, next+1)
	}
	return whole
}

// lists are the spots of many plants.
func lists(all []*plant) [][]api.Spot {
	var l [][]api.Spot
	for _, p := range all {
		l = append(l, p.list())
	}
	return l
}

// along is the label of a place by the way to it. Its Index is that way, as a
// number of twos.
func along(path string) api.Label {
	index, _ := strconv.ParseInt("0"+path, 2, 64)
	return at(len(path), int(index))
}

// grow is a plant of the members from first up to below end: cut says how many
// of as many go to the left.
func grow(first, end int, cut func(count int) int) *plant {
	if first >= end {
		return nil
	}
	if end-first == 1 {
		return one(first)
	}
	middle := first + cut(end-first)
	return two(grow(first, middle, cut), grow(middle, end, cut))
}

func toLeft(count int) int  { return count - 1 }
func toRight(int) int       { return 1 }
func even(count int) int    { return count / 2 }
func unlike(count int) int  { return 1 + (count-1)/3 }
func byTurns(count int) int { return 1 + (count%2)*(count-2) }

// full is a plant whose leaves all lie that deep, of the members from first on.
func full(first, height int) *plant { return grow(first, first+1<<height, even) }

// plants are trees that may be, at most 20 high, of many shapes, of the members
// from first on; nil is nothing.
func plants(first int) []*plant {
	all := []*plant{nil, one(first)}
	r := rand.New(rand.NewSource(12))
	random := func(count int) int { return 1 + r.Intn(count-1) }
	for _, count := range []int{2, 3, 4, 5, 7, 8, 13, 20, 21} {
		for _, cut := range []func(int) int{toLeft, toRight, byTurns, random, random} {
			all = append(all, grow(first, first+count, cut))
		}
	}
	for _, count := range []int{3, 4, 5, 6, 7, 8, 9, 13, 16, 17, 31, 32, 33} {
		all = append(all, grow(first, first+count, even), grow(first, first+count, unlike))
	}
	return all
}

// tooHigh are trees that may be, but are more than 20 high, and some that may
// not be.
func tooHigh() []*plant {
	var all []*plant
	for _, count := range []int{22, 23, 33, 61, 62, 63, 64, 65, 66, 1000} {
		for _, cut := range []func(int) int{toLeft, toRight, byTurns} {
			all = append(all, grow(0, count, cut))
		}
	}
	return all
}

// shapes are all trees of the members from first up to below end.
func shapes(first, end int) []*plant {
	if end-first == 1 {
		return []*plant{one(first)}
	}
	var all []*plant
	for middle := first + 1; middle < end; middle++ {
		for _, left := range shapes(first, middle) {
			for _, right := range shapes(middle, end) {
				all = append(all, two(left, right))
			}
		}
	}
	return all
}

// orders are all orders of as many.
func orders(count int) [][]int {
	if count == 0 {
		return [][]int{nil}
	}
	var all [][]int
	for _, some := range orders(count - 1) {
		for place := range count {
			all = append(all, slices.Insert(slices.Clone(some), place, count-1))
		}
	}
	return all
}

// crooked are lists that may be no trees.
func crooked() map[string][]api.Spot {
	return map[string][]api.Spot{
		"an inner spot alone":         {inner()},
		"inner spots alone":           make([]api.Spot, 1<<12),
		"two leaves":                  {leaf(0), leaf(1)},
		"leaves alone":                slices.Repeat([]api.Spot{leaf(0), leaf(1)}, 1<<11),
		"a leaf, then an inner spot":  {leaf(0), inner()},
		"one half alone":              {inner(), leaf(0)},
		"halves ahead of their spot":  {leaf(0), leaf(1), inner()},
		"three halves":                {inner(), leaf(0), leaf(1), leaf(2)},
		"two trees":                   {inner(), leaf(0), leaf(1), inner(), leaf(2), leaf(3)},
		"the right half not ended":    {inner(), leaf(0), inner(), leaf(1)},
		"the left half not ended":     {inner(), inner(), leaf(0), leaf(1)},
		"nothing in the right half":   {inner(), inner(), leaf(0), leaf(1), inner()},
		"somebody's inner spot":       {{Who: nth(1)}, leaf(0), leaf(1)},
		"one member twice":            {inner(), leaf(1), leaf(1)},
		"one twice, in both halves":   {inner(), inner(), leaf(0), leaf(1), inner(), leaf(2), leaf(0)},
		"nobody's leaf":               {{Leaf: true}},
		"nobody's leaf, to the right": {inner(), leaf(0), {Leaf: true}},
		"who may not be":              {inner(), {Leaf: true, Who: life(-1, math.MinInt)}, {Leaf: true, Who: life(math.MaxInt, 0)}},
		"65 leaves":                   grow(0, 65, even).list(),
		"1000 leaves":                 grow(0, 1000, unlike).list(),
		"a great many leaves":         grow(0, 1<<12, even).list(),
		"a great many, to the left":   grow(0, 1<<11, toLeft).list(),
		"a great many, to the right":  grow(0, 1<<11, toRight).list(),
	}
}

// wrong are labels that may not be.
func wrong() []api.Label {
	return []api.Label{
		at(-1, 0), at(-1, 1), at(-1, -1), at(-60, 0), at(-64, 0), at(math.MinInt, 0), at(math.MinInt, math.MinInt), at(math.MinInt, math.MaxInt),
		at(0, 1), at(0, -1), at(0, math.MaxInt), at(0, math.MinInt), at(1, 2), at(1, 3), at(1, -1), at(1, math.MinInt), at(2, 4), at(2, -1), at(3, 8), at(32, 1<<32), at(60, 1<<60), at(60, -1), at(60, math.MaxInt),
		at(61, 0), at(61, 1), at(61, 1<<61-1), at(62, 0), at(64, 0), at(128, 0), at(1<<32, 0), at(1<<32+1, 1), at(math.MaxInt, 0), at(math.MaxInt, math.MaxInt), at(math.MaxInt, math.MinInt),
	}
}

// P12.1, P12.2: the chapter's example, and the next ones to come.
func TestExample(t *testing.T) {
	l := tree.Join(tree.Join(tree.Leaf(nth(0)), tree.Leaf(nth(1))), tree.Leaf(nth(2)))
	four := []api.Spot{inner(), inner(), leaf(0), leaf(1), inner(), leaf(2), leaf(3)}
	five := slices.Concat([]api.Spot{inner()}, four, []api.Spot{leaf(4)})
	six := slices.Concat([]api.Spot{inner()}, four, []api.Spot{inner(), leaf(4), leaf(5)})
	if x := Place(l, 0); x != at(1, 1) {
		t.Errorf("the place: %v", x)
	}
	if got := Put(l, at(1, 1), []api.Spot{leaf(3)}); !slices.Equal(got, four) {
		t.Errorf("put: %v", got)
	}
	if got := Graft(l, []api.Spot{leaf(3)}); !slices.Equal(got, four) {
		t.Errorf("grafted: %v", got)
	}
	if got := Merge([][]api.Spot{{leaf(3)}, l}); !slices.Equal(got, four) {
		t.Errorf("merged: %v", got)
	}
	if got := Graft(four, []api.Spot{leaf(4)}); !slices.Equal(got, five) {
		t.Errorf("a fifth one: %v", got)
	}
	if got := Graft(five, []api.Spot{leaf(5)}); !slices.Equal(got, six) {
		t.Errorf("a sixth one: %v", got)
	}
}

// P12.1: Place, written out: the places for trees of the heights from 0 on; of
// all heights above these it is the root's.
func TestPlaceWrittenOut(t *testing.T) {
	root := at(0, 0)
	leftThree, rightThree := two(two(one(0), one(1)), one(2)), two(one(0), two(one(1), one(2)))
	other := two(two(one(3), one(4)), one(5))
	for _, c := range []struct {
		what string
		p    *plant
		want []api.Label
	}{
		{"nothing", nil, []api.Label{root}},
		{"a leaf", one(0), []api.Label{root}},
		{"two", two(one(0), one(1)), []api.Label{root}},
		{"three to the left", leftThree, []api.Label{at(1, 1), root}},
		{"three to the right", rightThree, []api.Label{at(1, 0), root}},
		{"four to the left", two(leftThree, one(3)), []api.Label{at(1, 1), at(1, 1), root}},
		{"four to the right", two(one(3), rightThree), []api.Label{at(1, 0), at(1, 0), root}},
		{"four by turns, to the left", two(rightThree, one(3)), []api.Label{at(1, 1), at(1, 1), root}},
		{"four by turns, to the right", two(one(3), leftThree), []api.Label{at(1, 0), at(1, 0), root}},
		{"four evenly", full(0, 2), []api.Label{root}},
		{"two and three to the left", two(two(one(3), one(4)), leftThree), []api.Label{at(1, 0), at(1, 0), root}},
		{"three to the right and two", two(rightThree, two(one(3), one(4))), []api.Label{at(1, 1), at(1, 1), root}},
		{"two places, both halves' right", two(leftThree, other), []api.Label{at(2, 3), root}},
		{"two places, both halves' left", two(rightThree, two(one(3), two(one(4), one(5)))), []api.Label{at(2, 2), root}},
		{"two places, in the middle", two(leftThree, two(one(3), two(one(4), one(5)))), []api.Label{at(2, 2), root}},
		{"two places, on the outside", two(rightThree, other), []api.Label{at(2, 3), root}},
		{"a place in the left half alone", two(leftThree, full(3, 2)), []api.Label{at(2, 1), root}},
		{"a place in the right half alone", two(full(3, 2), rightThree), []api.Label{at(2, 2), root}},
		{"a deeper one, more to the right", two(one(9), leftThree), []api.Label{at(1, 0), at(1, 0), root}},
		{"a deeper one for the low ones alone", two(full(0, 4), two(full(16, 3), two(full(24, 2), full(28, 1)))), []api.Label{at(3, 7), at(3, 7), root}},
		{"less deep for the low ones", two(full(0, 4), two(two(full(16, 1), full(18, 2)), full(28, 1))), []api.Label{at(2, 3), at(2, 3), at(2, 3), root}},
		{"two and four to the left", two(two(leftThree, one(3)), two(one(4), one(5))), []api.Label{at(1, 1), at(1, 1), at(1, 1), root}},
		{"21 to the left", grow(0, 21, toLeft), append(slices.Repeat([]api.Label{at(1, 1)}, 19), root)},
		{"21 to the right", grow(0, 21, toRight), append(slices.Repeat([]api.Label{at(1, 0)}, 19), root)},
	} {
		for height, want := range c.want {
			if got := Place(c.p.list(), height); got != want {
				t.Errorf("%s: for one %d high: %v, want %v", c.what, height, got, want)
			}
		}
		for _, height := range []int{c.p.high(), c.p.high() + 1, c.p.high() + 2, len(c.want), 20, 21, 63, 64, 1 << 31, 1 << 32, math.MaxInt - 64, math.MaxInt - 1, math.MaxInt} {
			if got := Place(c.p.list(), height); height >= len(c.want) && got != root {
				t.Errorf("%s: for one %d high: %v, want the root's", c.what, height, got)
			}
		}
	}
}

// P12.1: Place, where a full tree lacks what is deeper in one place, or in two:
// each one of them is found, and of two the rightmost.
func TestPlaceOfGaps(t *testing.T) {
	const height = 5
	gap := func(p *plant, x api.Label, with *plant) *plant {
		return p.in(fmt.Sprintf("%0*b", x.Level, x.Index), with)
	}
	for level := 1; level < height; level++ {
		for index := range 1 << level {
			for low := range height - level {
				p := gap(full(0, height), at(level, index), full(100, low))
				for more := range height + 2 {
					want := at(level, index)
					if more > height-level-1 {
						want = at(0, 0)
					}
					if got := Place(p.list(), more); got != want {
						t.Errorf("one %d high at %d, %d: for one %d high: %v, want %v", low, level, index, more, got, want)
					}
				}
				if level == 1 {
					continue
				}
				// Not the half beside it, since then what both are halves of would
				// be lower too.
				other := (index + 2) % (1 << level)
				both := gap(p, at(level, other), full(200, low))
				if got, want := Place(both.list(), low), at(level, max(index, other)); got != want {
					t.Errorf("two of them %d high, at %d, %d and %d: %v, want %v", low, level, index, other, got, want)
				}
			}
		}
	}
}

// P12.1: Place, in every tree of up to seven members, for every height, and
// above.
func TestPlaceOfEveryShape(t *testing.T) {
	for count := 1; count <= 7; count++ {
		for _, p := range shapes(0, count) {
			for height := range count + 3 {
				if got := Place(p.list(), height); got != along(p.place(height)) {
					t.Errorf("in %v, for one %d high: %v, want %v", p.list(), height, got, along(p.place(height)))
				}
			}
		}
	}
}

// P12.1: Place, in trees of many shapes, for every height, and above.
func TestPlace(t *testing.T) {
	for _, p := range append(plants(0), full(0, 6), grow(0, 64, unlike)) {
		for height := range 24 {
			if got := Place(p.list(), height); got != along(p.place(height)) {
				t.Errorf("in %v, for one %d high: %v, want %v", p.list(), height, got, along(p.place(height)))
			}
		}
	}
}

// P12.1: what is put at a place makes the whole no higher than it was, or, if
// there is none, one higher than the higher one of both.
func TestPlaceKeepsLow(t *testing.T) {
	for _, p := range plants(0) {
		for height := range 22 {
			l, more := p.list(), grow(100, 101+height, toRight).list()
			x, got := Place(l, height), Graft(l, more)
			if x == at(0, 0) && tree.Height(got) != 1+max(tree.Height(l), height) && p != nil {
				t.Errorf("on %v, one %d high at the root: %d high", l, height, tree.Height(got))
			}
			if x != at(0, 0) && tree.Height(got) != tree.Height(l) {
				t.Errorf("on %v, one %d high at %v: %d high", l, height, x, tree.Height(got))
			}
		}
	}
}

// P12.1: Put, written out: at the root, at an inner spot, at a leaf, to the left
// and to the right.
func TestPutWrittenOut(t *testing.T) {
	l := []api.Spot{inner(), inner(), leaf(0), leaf(1), inner(), leaf(2), leaf(3)}
	for _, c := range []struct {
		x    api.Label
		want []api.Spot
	}{
		{at(0, 0), []api.Spot{inner(), inner(), inner(), leaf(0), leaf(1), inner(), leaf(2), leaf(3), inner(), leaf(4), leaf(5)}},
		{at(1, 0), []api.Spot{inner(), inner(), inner(), leaf(0), leaf(1), inner(), leaf(4), leaf(5), inner(), leaf(2), leaf(3)}},
		{at(1, 1), []api.Spot{inner(), inner(), leaf(0), leaf(1), inner(), inner(), leaf(2), leaf(3), inner(), leaf(4), leaf(5)}},
		{at(2, 0), []api.Spot{inner(), inner(), inner(), leaf(0), inner(), leaf(4), leaf(5), leaf(1), inner(), leaf(2), leaf(3)}},
		{at(2, 1), []api.Spot{inner(), inner(), leaf(0), inner(), leaf(1), inner(), leaf(4), leaf(5), inner(), leaf(2), leaf(3)}},
		{at(2, 2), []api.Spot{inner(), inner(), leaf(0), leaf(1), inner(), inner(), leaf(2), inner(), leaf(4), leaf(5), leaf(3)}},
		{at(2, 3), []api.Spot{inner(), inner(), leaf(0), leaf(1), inner(), leaf(2), inner(), leaf(3), inner(), leaf(4), leaf(5)}},
	} {
		if got := Put(l, c.x, []api.Spot{inner(), leaf(4), leaf(5)}); !slices.Equal(got, c.want) {
			t.Errorf("at %v: %v, want %v", c.x, got, c.want)
		}
	}
	if got := Put([]api.Spot{leaf(7)}, at(0, 0), []api.Spot{leaf(6)}); !slices.Equal(got, []api.Spot{inner(), leaf(7), leaf(6)}) {
		t.Errorf("at a leaf alone: %v", got)
	}
}

// P12.1: Put, at each label of trees of all shapes.
func TestPut(t *testing.T) {
	all := plants(0)
	for count := 2; count <= 5; count++ {
		all = append(all, shapes(0, count)...)
	}
	for _, p := range all {
		for _, more := range []*plant{one(100), full(100, 1), grow(100, 103, toLeft), grow(100, 120, toRight)} {
			for _, path := range p.paths() {
				if got, want := Put(p.list(), along(path), more.list()), p.put(path, more).list(); !slices.Equal(got, want) {
					t.Errorf("%v at %q of %v: %v, want %v", more.list(), path, p.list(), got, want)
				}
			}
		}
	}
}

// P12.1: Put, at labels that aren't there, or may not be, and of nothing: the
// tree as it was.
func TestPutNowhere(t *testing.T) {
	room := []api.Spot{leaf(100), leaf(101)}
	for _, p := range plants(0) {
		l, there := p.list(), map[api.Label]int{}
		for i, path := range p.paths() {
			there[along(path)] = i
			for _, nothing := range [][]api.Spot{nil, {}, room[:0], room[2:]} {
				if got := Put(l, along(path), nothing); !slices.Equal(got, l) {
					t.Errorf("nothing at %q of %v: %v", path, l, got)
				}
			}
		}
		labels := append(wrong(), at(22, 0), at(59, 1), at(60, 0), at(60, 1<<60-1))
		for level := range 7 {
			for index := range 1 << level {
				labels = append(labels, at(level, index))
			}
		}
		for _, path := range p.paths() {
			labels = append(labels, along(path+"0"), along(path+"1"), along(path+"01"), along(path+"10"))
		}
		for _, x := range labels {
			for _, more := range [][]api.Spot{nil, room[:1], {inner(), leaf(100), leaf(101)}} {
				if _, is := there[x]; is {
					continue
				}
				if got := Put(l, x, more); !slices.Equal(got, l) {
					t.Errorf("%v at %v of %v: %v", more, x, l, got)
				}
			}
		}
	}
}

// P12.1: Graft, of nothing: the other one.
func TestGraftOfNothing(t *testing.T) {
	room := []api.Spot{leaf(100), leaf(101)}
	for _, p := range plants(0) {
		for _, nothing := range [][]api.Spot{nil, {}, room[:0], room[2:]} {
			if got := Graft(nothing, p.list()); !slices.Equal(got, p.list()) {
				t.Errorf("%v onto nothing: %v", p.list(), got)
			}
			if got := Graft(p.list(), nothing); !slices.Equal(got, p.list()) {
				t.Errorf("nothing onto %v: %v", p.list(), got)
			}
		}
	}
}

// P12.1: Graft, written out: trees of several heights onto one another.
func TestGraftWrittenOut(t *testing.T) {
	three, other := two(two(one(0), one(1)), one(2)), two(one(3), one(4))
	four := two(three, one(5))
	for _, c := range []struct{ p, more, want *plant }{
		{one(0), one(1), two(one(0), one(1))},
		{one(1), one(0), two(one(1), one(0))},
		{one(0), other, two(one(0), other)},
		{other, one(0), two(other, one(0))},
		{three, one(3), two(two(one(0), one(1)), two(one(2), one(3)))},
		{three, other, two(three, other)},
		{other, three, two(other, three)},
		{four, one(6), two(three, two(one(5), one(6)))},
		{four, other, two(three, two(one(5), other))},
		{four, two(other, one(6)), two(four, two(other, one(6)))},
		{other, four, two(other, four)},
		{two(other, three), one(6), two(two(other, one(6)), three)},
		{two(other, three), two(one(6), one(7)), two(two(other, two(one(6), one(7))), three)},
		{two(full(8, 2), three), one(6), two(full(8, 2), two(two(one(0), one(1)), two(one(2), one(6))))},
	} {
		if got := Graft(c.p.list(), c.more.list()); !slices.Equal(got, c.want.list()) {
			t.Errorf("%v onto %v: %v, want %v", c.more.list(), c.p.list(), got, c.want.list())
		}
	}
}

// P12.1: Graft, of every two trees of many shapes.
func TestGraft(t *testing.T) {
	for _, p := range plants(0) {
		for _, more := range plants(100) {
			if got, want := Graft(p.list(), more.list()), p.graft(more).list(); !slices.Equal(got, want) {
				t.Errorf("%v onto %v: %v, want %v", more.list(), p.list(), got, want)
			}
		}
	}
}

// P12.1: each of two trees is as it was when the other one's members go, and
// both together may be a tree.
func TestEachStays(t *testing.T) {
	for _, p := range plants(0) {
		for _, other := range plants(100) {
			if p.count()+other.count() > api.MaxList {
				continue
			}
			l, more := p.list(), other.list()
			both := Graft(l, more)
			if !tree.Right(both) {
				t.Errorf("%v onto %v: %v may not be", more, l, both)
			}
			if got := prune.Only(both, tree.Leaves(l)); !slices.Equal(got, l) {
				t.Errorf("%v, with %v and without: %v", l, more, got)
			}
			if got := prune.Only(both, tree.Leaves(more)); !slices.Equal(got, more) {
				t.Errorf("%v, with %v and without: %v", more, l, got)
			}
		}
	}
}

// P12.2: none told, nothing told, and one alone, with nothing around it.
func TestMergeOfFew(t *testing.T) {
	for _, none := range [][][]api.Spot{nil, {}, {nil}, {{}}, {nil, {}, nil}} {
		if got := Merge(none); len(got) != 0 {
			t.Errorf("of %v: %v", none, got)
		}
	}
	for _, p := range plants(0) {
		for _, alone := range [][][]api.Spot{{p.list()}, {nil, p.list()}, {p.list(), nil}, {{}, nil, p.list(), nil, {}}} {
			if got := Merge(alone); !slices.Equal(got, p.list()) {
				t.Errorf("%v alone: %v", p.list(), got)
			}
		}
	}
}

// P12.2: Merge, written out: most members first; of as many by the first of all
// the members by layer 8's order; told in every order, with nothing among them.
func TestMergeWrittenOut(t *testing.T) {
	tip := func(node, inc int) *plant { return &plant{who: life(node, inc)} }
	for _, c := range []struct {
		what string
		all  []*plant
		want *plant
	}{
		{"two leaves", []*plant{one(0), one(1)}, two(one(0), one(1))},
		{"a node's lives", []*plant{tip(3, 2), tip(3, 10)}, two(tip(3, 2), tip(3, 10))},
		{"a later life of a lower node", []*plant{tip(2, 1<<31-1), tip(3, 1)}, two(tip(2, 1<<31-1), tip(3, 1))},
		{"three leaves", []*plant{one(0), one(1), one(2)}, two(two(one(0), one(1)), one(2))},
		{"four leaves", []*plant{one(0), one(1), one(2), one(3)}, full(0, 2)},
		{"most members first", []*plant{one(0), two(one(6), one(7)), grow(1, 4, toLeft)},
			two(grow(1, 4, toLeft), two(two(one(6), one(7)), one(0)))},
		{"more members, but as high, and later ones", []*plant{full(4, 2), grow(0, 3, toLeft)}, two(full(4, 2), grow(0, 3, toLeft))},
		{"more members, but lower, and later ones", []*plant{full(7, 3), grow(0, 7, toLeft)}, two(full(7, 3), grow(0, 7, toLeft))},
		{"the first one is not the leftmost", []*plant{two(one(3), one(0)), two(one(1), one(2))},
			two(two(one(3), one(0)), two(one(1), one(2)))},
		{"the first one lies in the middle", []*plant{two(two(one(7), one(0)), one(6)), two(two(one(1), one(2)), one(3))},
			two(two(two(one(7), one(0)), one(6)), two(two(one(1), one(2)), one(3)))},
		{"the first one is an earlier life", []*plant{two(tip(5, 1), tip(4, 3)), two(tip(4, 4), tip(7, 1))},
			two(two(tip(5, 1), tip(4, 3)), two(tip(4, 4), tip(7, 1)))},
		{"the first one of both is not the last", []*plant{two(one(0), one(7)), two(one(1), one(2))},
			two(two(one(0), one(7)), two(one(1), one(2)))},
		{"low ones into a high one", []*plant{grow(0, 5, toLeft), full(5, 1), one(7)},
			two(grow(0, 4, toLeft), two(two(one(4), full(5, 1)), one(7)))},
	} {
		for _, order := range orders(len(c.all) + 1) {
			var told [][]api.Spot
			for _, i := range order {
				told = append(told, append(c.all, nil)[i].list())
			}
			if got := Merge(told); !slices.Equal(got, c.want.list()) {
				t.Errorf("%s, told as %v: %v, want %v", c.what, order, got, c.want.list())
			}
		}
	}
}

// mixed are some plants of members from 0 up to below count, dealt out at
// random.
func mixed(r *rand.Rand, count int) []*plant {
	var all []*plant
	numbers := r.Perm(count)
	for len(numbers) > 0 {
		some := 1 + r.Intn(min(len(numbers), 1+r.Intn(20)))
		var part []*plant
		for _, n := range numbers[:some] {
			part = append(part, one(n))
		}
		for len(part) > 1 {
			i := r.Intn(len(part) - 1)
			part = slices.Replace(part, i, i+2, two(part[i], part[i+1]))
		}
		all, numbers = append(all, part[0]), numbers[some:]
		if r.Intn(4) == 0 {
			all = append(all, nil)
		}
	}
	return all
}

// P12.2: Merge, of members dealt out to trees at random, told in any order: the
// same tree, that has all of them, and may be.
func TestMerge(t *testing.T) {
	r := rand.New(rand.NewSource(122))
	for _, count := range []int{2, 3, 4, 5, 8, 13, 20, 33, 64} {
		for range 40 {
			all := mixed(r, count)
			want := merge(all).list()
			for range 5 {
				got := Merge(lists(all))
				if !slices.Equal(got, want) {
					t.Errorf("of %v: %v, want %v", lists(all), got, want)
				}
				if !tree.Right(got) || len(tree.Leaves(got)) != count {
					t.Errorf("of %v: %v may not be", lists(all), got)
				}
				r.Shuffle(len(all), func(i, j int) { all[i], all[j] = all[j], all[i] })
			}
			for _, p := range all {
				if got := prune.Only(want, tree.Leaves(p.list())); !slices.Equal(got, p.list()) {
					t.Errorf("%v, merged and pruned: %v", p.list(), got)
				}
			}
		}
	}
}

// lowest is how high a tree of as many members is at least.
func lowest(count int) int { return bits.Len(uint(count - 1)) }

// P12.3: members that come one by one make a tree that is as low as may be; told
// at once they make the same.
func TestLow(t *testing.T) {
	var l []api.Spot
	var all [][]api.Spot
	r := rand.New(rand.NewSource(123))
	for n := range api.MaxList {
		// By layer 8's order, in which Merge takes them.
		m := life(n/8, 1+n%8)
		l, all = Graft(l, tree.Leaf(m)), append(all, tree.Leaf(m))
		if tree.Height(l) != lowest(n+1) || !tree.Right(l) || len(tree.Leaves(l)) != n+1 {
			t.Errorf("%d members: %v, %d high", n+1, l, tree.Height(l))
		}
		r.Shuffle(len(all), func(i, j int) { all[i], all[j] = all[j], all[i] })
		if got := Merge(all); !slices.Equal(got, l) {
			t.Errorf("%d members at once: %v, want %v", n+1, got, l)
		}
	}
}

// P12.3: onto whatever tree a member comes, it gets higher only if it is full.
func TestHigherOnlyIfFull(t *testing.T) {
	all := plants(0)
	for count := 1; count <= 6; count++ {
		all = append(all, shapes(0, count)...)
	}
	for _, p := range all {
		if p == nil {
			continue
		}
		l := p.list()
		want := tree.Height(l)
		if p.count() == 1<<want {
			want++
		}
		if got := Graft(l, tree.Leaf(nth(100))); tree.Height(got) != want {
			t.Errorf("a member onto %v: %v, %d high", l, got, tree.Height(got))
		}
	}
}

// P12.3: where members go, and others come, it gets no higher before it is full.
func TestLowAgain(t *testing.T) {
	r := rand.New(rand.NewSource(3))
	var l []api.Spot
	for n := range 64 {
		l = Graft(l, tree.Leaf(nth(n)))
	}
	for next := 64; next < 500; {
		for range r.Intn(60) {
			l = prune.Without(l, tree.Leaves(l)[r.Intn(len(tree.Leaves(l)))])
		}
		high := tree.Height(l)
		for len(tree.Leaves(l)) < 1<<high {
			l = Graft(l, tree.Leaf(nth(next)))
			next++
		}
		if tree.Height(l) != high || !tree.Right(l) {
			t.Errorf("%d members: %v, %d high, was %d high", len(tree.Leaves(l)), l, tree.Height(l), high)
		}
		for len(tree.Leaves(l)) < 64 {
			l = Graft(l, tree.Leaf(nth(next)))
			next++
		}
		if tree.Height(l) != 6 {
			t.Errorf("64 members: %v, %d high", l, tree.Height(l))
		}
	}
}

// heights are heights that are asked for, and that aren't.
func heights() []int {
	return []int{0, 1, 2, 19, 20, 21, 59, 60, 61, 64, 1 << 31, 1<<32 + 1, math.MaxInt - 61, math.MaxInt - 60, math.MaxInt - 1, math.MaxInt, -1, -2, -60, -61, -1 << 32, math.MinInt, math.MinInt + 1, math.MinInt + 60}
}

// askAll makes every call of l that a test can think of, and tells where one
// answers what no list allows: members that were in none, or fewer than were in
// the first one.
func askAll(t *testing.T, what string, l []api.Spot) {
	t.Helper()
	others := [][]api.Spot{nil, {leaf(200)}, {inner(), leaf(200), leaf(201)}, {inner()}, {leaf(200), leaf(201)}, {inner(), leaf(200)}}
	labels := append(wrong(), at(0, 0), at(1, 0), at(1, 1), at(2, 3), at(60, 0), at(60, 1<<60-1))
	for _, height := range heights() {
		x := Place(l, height)
		if x.Level < 0 || x.Level > 60 || x.Index < 0 || x.Index >= 1<<x.Level || x.Level > len(l) {
			t.Errorf("%s: for one %d high: %v", what, height, x)
		}
	}
	check := func(call string, got, more []api.Spot) {
		t.Helper()
		count := len(got)
		if count != len(l) && count != len(more) && count != len(l)+len(more)+1 {
			t.Errorf("%s: %s: %d spots, of %d and %d", what, call, count, len(l), len(more))
		}
	}
	for _, more := range others {
		for _, x := range labels {
			check(fmt.Sprint("put at ", x), Put(l, x, more), more)
			check(fmt.Sprint("put, at ", x), Put(more, x, l), more)
		}
		check("graft", Graft(l, more), more)
		check("graft onto", Graft(more, l), more)
		check("merge", Merge([][]api.Spot{more, l}), more)
	}
	Merge(append(slices.Repeat([][]api.Spot{l}, 3), others...))
}

// P1: lists that may be no trees, and heights that aren't asked for: no call
// panics, each ends.
func TestCrooked(t *testing.T) {
	for what, l := range crooked() {
		askAll(t, what, l)
	}
	for _, p := range plants(0) {
		l := p.list()
		for count := range l {
			askAll(t, "cut off", l[:count])
			askAll(t, "cut off ahead", l[count:])
		}
	}
	Merge(slices.Collect(func(yield func([]api.Spot) bool) {
		for _, l := range crooked() {
			if !yield(l) {
				return
			}
		}
	}))
}

// P1: trees that are higher than is asked for: no call panics, and what is
// answered is right.
func TestTooHigh(t *testing.T) {
	for i, p := range tooHigh() {
		l := p.list()
		askAll(t, fmt.Sprint("too high ", i), l)
		if p.count() > api.MaxList {
			continue
		}
		for _, height := range []int{0, 1, 20, p.high() - 2, p.high() - 1, p.high()} {
			if got := Place(l, height); got != along(p.place(height)) {
				t.Errorf("in %v, for one %d high: %v", l, height, got)
			}
		}
	}
}

// P1: as high and as great as is promised, the calls end soon.
func TestGreat(t *testing.T) {
	for _, cut := range []func(int) int{toLeft, toRight, even, unlike} {
		l := grow(0, 1<<15, cut).list()
		for _, height := range heights() {
			Place(l, height)
		}
		if got := Graft(l, []api.Spot{leaf(1 << 15)}); len(got) != len(l)+2 {
			t.Errorf("%d spots", len(got))
		}
		if got := Merge([][]api.Spot{{leaf(1 << 15)}, l}); len(got) != len(l)+2 {
			t.Errorf("%d spots", len(got))
		}
	}
	Graft(make([]api.Spot, 1<<16), []api.Spot{leaf(0)})
	Graft(slices.Repeat([]api.Spot{leaf(0)}, 1<<16), []api.Spot{leaf(0)})
}

// roomy is a list with spare room that has something in it, and all of it.
func roomy(l []api.Spot, n int) ([]api.Spot, []api.Spot) {
	all := slices.Concat(l, []api.Spot{leaf(n), inner(), leaf(n + 1), leaf(n + 2)}, make([]api.Spot, len(l)+200))
	return all[:len(l)], all
}

// Rule 3: what is handed in is as it was, its spare room and the list of lists
// too, and no answer shares memory with it, or with another.
func TestNothingChanges(t *testing.T) {
	given := crooked()
	for i, p := range append(plants(0), tooHigh()...) {
		given[fmt.Sprint("tree ", i)] = p.list()
	}
	for what, spots := range given {
		for _, others := range [][]api.Spot{nil, {leaf(700)}, {inner(), inner(), leaf(700), leaf(701), leaf(702)}} {
			l, all := roomy(spots, 800)
			more, allMore := roomy(others, 900)
			was, wasMore := slices.Clone(all), slices.Clone(allMore)
			room := [][]api.Spot{more, l, nil, {leaf(600)}, {leaf(500)}, l}
			some := room[:4]
			for _, answer := range []func() []api.Spot{
				func() []api.Spot { return Put(l, at(0, 0), more) },
				func() []api.Spot { return Put(l, at(1, 0), more) },
				func() []api.Spot { return Put(l, at(1, 1), more) },
				func() []api.Spot { return Put(l, at(60, 0), more) },
				func() []api.Spot { return Put(l, at(-1, 0), more) },
				func() []api.Spot { return Put(more, at(0, 0), l) },
				func() []api.Spot { return Graft(l, more) },
				func() []api.Spot { return Graft(more, l) },
				func() []api.Spot { return Graft(nil, l) },
				func() []api.Spot { return Merge(some) },
				func() []api.Spot { return Merge(some[:2]) },
				func() []api.Spot { return Merge(some[1:2]) },
			} {
				got, other := answer(), answer()
				again := slices.Clone(got)
				clear(other[:cap(other)])
				if !slices.Equal(got, again) {
					t.Errorf("%s: two answers share memory", what)
				}
				clear(got[:cap(got)])
			}
			for _, height := range heights() {
				Place(l, height)
			}
			if !slices.Equal(all, was) || !slices.Equal(allMore, wasMore) {
				t.Errorf("%s: is changed, or shared", what)
			}
			wanted := [][]api.Spot{more, l, nil, {leaf(600)}, {leaf(500)}, l}
			if !slices.EqualFunc(room, wanted, func(a, b []api.Spot) bool { return slices.Equal(a, b) }) {
				t.Errorf("%s: the list of lists is changed", what)
			}
		}
	}
}

// Rules 4 and 6: the same arguments come to the same, in whatever goroutine.
func TestManyAtOnce(t *testing.T) {
	all := mixed(rand.New(rand.NewSource(6)), 64)
	told, want := lists(all), merge(all).list()
	place := along(merge(all).place(0))
	var workers sync.WaitGroup
	for range 8 {
		workers.Go(func() {
			for range 50 {
				got := Merge(told)
				if !slices.Equal(got, want) || Place(got, 0) != place || !slices.Equal(Put(got, place, tree.Leaf(nth(64))), Graft(want, tree.Leaf(nth(64)))) {
					t.Error("at once: not the same")
				}
			}
		})
	}
	workers.Wait()
}

// planted is the plant of a list that may be a tree.
func planted(l []api.Spot) *plant {
	if len(l) == 0 {
		return nil
	}
	if l[0].Leaf {
		return &plant{who: l[0].Who}
	}
	a, b, _ := tree.Halves(l)
	return two(planted(a), planted(b))
}

// P1: no call panics, at any arguments; each answer is right of whatever may be
// a tree.
func FuzzAll(f *testing.F) {
	written := func(l []api.Spot) []byte {
		raw := make([]byte, len(l))
		for i, spot := range l {
			if spot.Leaf {
				raw[i] = byte(8*spot.Who.Inc + spot.Who.Node)
			}
		}
		return raw
	}
	for i, p := range plants(0) {
		f.Add(written(p.list()), written(plants(100)[i%17].list()), i%5, 1, i%2)
	}
	f.Add([]byte{0, 0, 8, 9, 10}, []byte{8}, math.MaxInt, 61, 0)
	f.Add([]byte{0, 8, 0, 9}, []byte{}, math.MinInt, math.MinInt, math.MaxInt)
	f.Fuzz(func(t *testing.T, raw, rawMore []byte, height, level, index int) {
		read := func(raw []byte) []api.Spot {
			l := make([]api.Spot, len(raw))
			for i, b := range raw {
				if b >= 8 {
					l[i] = api.Spot{Leaf: true, Who: life(int(b%8), int(b/8))}
				}
			}
			return l
		}
		l, more, x := read(raw), read(rawMore), at(level, index)
		askAll(t, "any list", l)
		place, put, grafted := Place(l, height), Put(l, x, more), Graft(l, more)
		merged, turned := Merge([][]api.Spot{l, more}), Merge([][]api.Spot{more, l})
		if !slices.Equal(l, read(raw)) || !slices.Equal(more, read(rawMore)) {
			t.Error("what was handed in is changed")
		}
		if !tree.Right(l) || !tree.Right(more) || tree.Height(l) > 20 || tree.Height(more) > 20 {
			return
		}
		p, other := planted(l), planted(more)
		if height >= 0 && height <= 100 && place != along(p.place(height)) {
			t.Errorf("in %v, for one %d high: %v", l, height, place)
		}
		want := l
		for _, path := range p.paths() {
			if along(path) == x && other != nil {
				want = p.put(path, other).list()
			}
		}
		if !slices.Equal(put, want) {
			t.Errorf("%v at %v of %v: %v", more, x, l, put)
		}
		if !slices.Equal(grafted, p.graft(other).list()) {
			t.Errorf("%v onto %v: %v", more, l, grafted)
		}
		if whole := merge([]*plant{p, other}).list(); tree.Right(grafted) && (!slices.Equal(merged, whole) || !slices.Equal(turned, whole)) {
			t.Errorf("%v and %v: %v, and %v", l, more, merged, turned)
		}
	})
}
