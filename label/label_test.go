package label

import (
	"fmt"
	"maps"
	"math"
	"math/rand"
	"slices"
	"strconv"
	"strings"
	"sync"
	"testing"

	"lodge/api"
	"lodge/tree"
)

func life(node, inc int) api.Member { return api.Member{Node: node, Inc: inc} }

// nth is the member of the number n: no two numbers have the same.
func nth(n int) api.Member { return life(n%8, 1+n/8) }

func inner() api.Spot { return api.Spot{} }

func leaf(n int) api.Spot { return api.Spot{Leaf: true, Who: nth(n)} }

func at(level, index int) api.Label { return api.Label{Level: level, Index: index} }

// along is the label of a place by the way to it from the root: 0 for each
// left half, 1 for each right one. Its Index is that way, as a number of
// twos.
func along(path string) api.Label {
	index, _ := strconv.ParseInt("0"+path, 2, 64)
	return at(len(path), int(index))
}

// grown is a tree, and where each of its spots stands: the way to it, and how
// many spots its part has.
type grown struct {
	name  string
	l     []api.Spot
	paths []string
	sizes []int
}

// grow lays a tree of the members from first up to below end: cut says how
// many of as many go to the left.
func (g *grown) grow(path string, first, end int, cut func(count int) int) {
	if first >= end {
		return
	}
	spot := len(g.l)
	g.l = append(g.l, leaf(first))
	g.paths = append(g.paths, path)
	g.sizes = append(g.sizes, 1)
	if end-first == 1 {
		return
	}
	g.l[spot] = inner()
	middle := first + cut(end-first)
	g.grow(path+"0", first, middle, cut)
	g.grow(path+"1", middle, end, cut)
	g.sizes[spot] = len(g.l) - spot
}

// part is the part that begins at a spot.
func (g *grown) part(spot int) []api.Spot { return g.l[spot : spot+g.sizes[spot]] }

// spots are the spots by their labels.
func (g *grown) spots() map[api.Label]int {
	all := map[api.Label]int{}
	for spot, path := range g.paths {
		all[along(path)] = spot
	}
	return all
}

func toLeft(count int) int  { return count - 1 }
func toRight(int) int       { return 1 }
func even(count int) int    { return count / 2 }
func unlike(count int) int  { return 1 + (count-1)/3 }
func byTurns(count int) int { return 1 + (count%2)*(count-2) }

// plant grows a tree of as many members.
func plant(name string, count int, cut func(int) int) *grown {
	g := &grown{name: fmt.Sprintf("%d %s", count, name)}
	g.grow("", 0, count, cut)
	return g
}

// plants are trees that may be, at most 60 high, of many shapes.
func plants() []*grown {
	all := []*grown{plant("members", 0, even), plant("leaf", 1, even)}
	r := rand.New(rand.NewSource(10))
	random := func(count int) int { return 1 + r.Intn(count-1) }
	for _, count := range []int{2, 3, 4, 5, 7, 8, 13, 33, 60, 61} {
		all = append(all, plant("to the left", count, toLeft), plant("to the right", count, toRight), plant("by turns", count, byTurns))
	}
	for _, count := range []int{2, 3, 4, 5, 7, 8, 13, 33, 60, 61, 62, 63, 64} {
		all = append(all, plant("evenly", count, even), plant("unlike", count, unlike), plant("at random", count, random))
	}
	return all
}

// tooHigh are trees that are more than 60 high.
func tooHigh() []*grown {
	var all []*grown
	for _, count := range []int{62, 63, 64, 65, 66, 1000} {
		all = append(all, plant("to the left", count, toLeft), plant("to the right", count, toRight), plant("by turns", count, byTurns))
	}
	return all
}

// crooked are lists that may be no trees.
func crooked() map[string][]api.Spot {
	return map[string][]api.Spot{
		"an inner spot alone":          {inner()},
		"inner spots alone":            make([]api.Spot, 1<<16),
		"two leaves":                   {leaf(0), leaf(1)},
		"leaves alone":                 slices.Repeat([]api.Spot{leaf(0), leaf(1)}, 1<<15),
		"a leaf, then an inner spot":   {leaf(0), inner()},
		"one half alone":               {inner(), leaf(0)},
		"halves ahead of their spot":   {leaf(0), leaf(1), inner()},
		"three halves":                 {inner(), leaf(0), leaf(1), leaf(2)},
		"two trees":                    {inner(), leaf(0), leaf(1), inner(), leaf(2), leaf(3)},
		"the right half not ended":     {inner(), leaf(0), inner(), leaf(1)},
		"the left half not ended":      {inner(), inner(), leaf(0), leaf(1)},
		"nothing in the right half":    {inner(), inner(), leaf(0), leaf(1), inner()},
		"somebody's inner spot":        {{Who: nth(1)}, leaf(0), leaf(1)},
		"one member twice":             {inner(), leaf(1), leaf(1)},
		"nobody's leaf":                {{Leaf: true}},
		"who may not be":               {inner(), {Leaf: true, Who: life(-1, math.MinInt)}, {Leaf: true, Who: life(math.MaxInt, 0)}},
		"65 leaves":                    plant("", 65, even).l,
		"as many as are promised high": plant("", 1<<12, toLeft).l,
	}
}

// wrong are labels that may not be.
func wrong() []api.Label {
	return []api.Label{
		at(-1, 0), at(-1, 1), at(-1, -1), at(-2, 0), at(-60, 0), at(-61, 0), at(-64, 0), at(math.MinInt, 0), at(math.MinInt, math.MinInt), at(math.MinInt, math.MaxInt),
		at(61, 0), at(61, 1), at(61, 1<<60), at(61, 1<<61-1), at(62, 0), at(63, 1), at(64, 0), at(64, 1), at(128, 0), at(1<<32, 0), at(1<<32+1, 1), at(math.MaxInt, 0), at(math.MaxInt, 1), at(math.MaxInt, math.MaxInt), at(math.MaxInt, math.MinInt),
		at(0, 1), at(0, 2), at(0, -1), at(0, -2), at(0, math.MaxInt), at(0, math.MinInt),
		at(1, 2), at(1, 3), at(1, 4), at(1, -1), at(1, -2), at(1, math.MaxInt), at(1, math.MinInt),
		at(2, 4), at(2, 5), at(2, -1), at(3, 8), at(32, 1<<32), at(32, -1<<32),
		at(59, 1<<59), at(59, 1<<60), at(60, 1<<60), at(60, 1<<60+1), at(60, 1<<61), at(60, 1<<62), at(60, -1), at(60, -2), at(60, -1<<60), at(60, math.MaxInt), at(60, math.MinInt),
	}
}

// mayBe is the chapter's rule for a label, word by word.
func mayBe(x api.Label) bool {
	if x.Level < 0 || x.Level > 60 {
		return false
	}
	below := 1
	for range x.Level {
		below *= 2
	}
	return x.Index >= 0 && x.Index < below
}

// ways are ways from the root, of each depth up to 60.
func ways() []string {
	var all []string
	r := rand.New(rand.NewSource(60))
	for depth := range 61 {
		all = append(all, strings.Repeat("0", depth), strings.Repeat("1", depth))
		for range 8 {
			path := ""
			for range depth {
				path += strconv.Itoa(r.Intn(2))
			}
			all = append(all, path)
		}
	}
	return all
}

// P10.1, P10.2: the chapter's example.
func TestExample(t *testing.T) {
	l := tree.Join(tree.Join(tree.Leaf(nth(0)), tree.Leaf(nth(1))), tree.Leaf(nth(2)))
	for n, want := range []api.Label{at(2, 0), at(2, 1), at(1, 1)} {
		if x, ok := Of(l, nth(n)); x != want || !ok {
			t.Errorf("%d stands at %v, %v", n, x, ok)
		}
	}
	for _, c := range []struct {
		x         api.Label
		spot, end int
	}{{at(0, 0), 0, 5}, {at(1, 0), 1, 4}, {at(2, 0), 2, 3}, {at(2, 1), 3, 4}, {at(1, 1), 4, 5}} {
		if got := At(l, c.x); got != c.spot {
			t.Errorf("at %v: spot %d", c.x, got)
		}
		if got := Part(l, c.x); !slices.Equal(got, l[c.spot:c.end]) {
			t.Errorf("at %v: %v", c.x, got)
		}
	}
	if way := Way(l, nth(1)); !slices.Equal(way, []api.Label{at(2, 1), at(1, 0), at(0, 0)}) {
		t.Errorf("1's way: %v", way)
	}
}

// P10.1: Right, at each edge of Level and Index.
func TestRight(t *testing.T) {
	for _, x := range wrong() {
		if Right(x) {
			t.Errorf("%v may be", x)
		}
	}
	for _, x := range []api.Label{at(0, 0), at(1, 0), at(1, 1), at(2, 0), at(2, 3), at(3, 7), at(31, 1<<31-1), at(32, 1<<31), at(32, 1<<32-1), at(59, 1<<59-1), at(60, 0), at(60, 1), at(60, 1<<59), at(60, 1<<60-1)} {
		if !Right(x) {
			t.Errorf("%v may not be", x)
		}
	}
}

// P10.1: Right, of each level, of each Index near an edge.
func TestRightAll(t *testing.T) {
	for level := -70; level <= 70; level++ {
		for bit := range 63 {
			for off := -3; off <= 3; off++ {
				for _, index := range []int{1<<bit + off, -1<<bit + off, math.MaxInt - bit, math.MinInt + bit} {
					x := at(level, index)
					if Right(x) != mayBe(x) {
						t.Fatalf("%v: %v", x, Right(x))
					}
				}
			}
		}
	}
	for _, path := range ways() {
		if !Right(along(path)) {
			t.Errorf("%v may not be", along(path))
		}
	}
}

// P10.1: Up and Beside, at their edges written out.
func TestUpBesideEdges(t *testing.T) {
	for _, c := range []struct{ x, up, beside api.Label }{
		{at(1, 0), at(0, 0), at(1, 1)},
		{at(1, 1), at(0, 0), at(1, 0)},
		{at(2, 0), at(1, 0), at(2, 1)},
		{at(2, 1), at(1, 0), at(2, 0)},
		{at(2, 2), at(1, 1), at(2, 3)},
		{at(2, 3), at(1, 1), at(2, 2)},
		{at(3, 5), at(2, 2), at(3, 4)},
		{at(60, 0), at(59, 0), at(60, 1)},
		{at(60, 1), at(59, 0), at(60, 0)},
		{at(60, 1<<60-2), at(59, 1<<59-1), at(60, 1<<60-1)},
		{at(60, 1<<60-1), at(59, 1<<59-1), at(60, 1<<60-2)},
	} {
		if up, ok := Up(c.x); up != c.up || !ok {
			t.Errorf("up from %v: %v, %v", c.x, up, ok)
		}
		if beside, ok := Beside(c.x); beside != c.beside || !ok {
			t.Errorf("beside %v: %v, %v", c.x, beside, ok)
		}
	}
}

// P10.1: Up and Beside, of left halves and right ones of each depth.
func TestUpBeside(t *testing.T) {
	for _, path := range ways() {
		if path == "" {
			continue
		}
		above, other := path[:len(path)-1], "0"
		if path[len(path)-1] == '0' {
			other = "1"
		}
		if up, ok := Up(along(path)); up != along(above) || !ok {
			t.Errorf("up from %q: %v, %v", path, up, ok)
		}
		if beside, ok := Beside(along(path)); beside != along(above+other) || !ok {
			t.Errorf("beside %q: %v, %v", path, beside, ok)
		}
	}
}

// P10.1: Up and Beside, of the root's, and of labels that may not be: zero and
// false.
func TestUpBesideNone(t *testing.T) {
	for _, x := range append(wrong(), at(0, 0)) {
		if up, ok := Up(x); up != at(0, 0) || ok {
			t.Errorf("up from %v: %v, %v", x, up, ok)
		}
		if beside, ok := Beside(x); beside != at(0, 0) || ok {
			t.Errorf("beside %v: %v, %v", x, beside, ok)
		}
	}
}

// P10.1: At and Part, at every label of trees of all shapes.
func TestAtPart(t *testing.T) {
	for _, g := range plants() {
		for spot, path := range g.paths {
			if got := At(g.l, along(path)); got != spot {
				t.Errorf("%s: at %q: spot %d, want %d", g.name, path, got, spot)
			}
			if got := Part(g.l, along(path)); !slices.Equal(got, g.part(spot)) {
				t.Errorf("%s: at %q: %v, want %v", g.name, path, got, g.part(spot))
			}
		}
	}
}

// nowhere tells where something is at a label at which there is nothing.
func nowhere(t *testing.T, what string, l []api.Spot, x api.Label) {
	t.Helper()
	if got := At(l, x); got != -1 {
		t.Errorf("%s: at %v: spot %d", what, x, got)
	}
	if got := Part(l, x); len(got) != 0 {
		t.Errorf("%s: at %v: %v", what, x, got)
	}
}

// P10.1: At and Part, beyond each leaf, at labels beside the tree, and at
// labels that may not be: nothing.
func TestAtPartNowhere(t *testing.T) {
	for _, g := range plants() {
		for spot, path := range g.paths {
			if !g.l[spot].Leaf {
				continue
			}
			for _, more := range []string{"0", "1", "00", "01", "10", "11", strings.Repeat("0", 60-len(path)), strings.Repeat("1", 60-len(path))} {
				if len(path+more) <= 60 && more != "" {
					nowhere(t, g.name, g.l, along(path+more))
				}
			}
		}
		for _, x := range wrong() {
			nowhere(t, g.name, g.l, x)
		}
		spots := g.spots()
		for _, path := range ways() {
			if _, there := spots[along(path)]; !there {
				nowhere(t, g.name, g.l, along(path))
			}
		}
	}
}

// P10.1: At and Part, of nothing: nothing, at the root's label too.
func TestAtPartOfNothing(t *testing.T) {
	room := []api.Spot{inner(), leaf(0), leaf(1)}
	for _, l := range [][]api.Spot{nil, {}, room[:0], room[3:]} {
		for _, x := range []api.Label{at(0, 0), at(1, 0), at(1, 1), at(60, 0), at(60, 1<<60-1)} {
			nowhere(t, "nothing", l, x)
		}
	}
}

// P10.1: At, at all labels of the first levels: those of the tree's spots, and
// no others.
func TestAtAll(t *testing.T) {
	for _, g := range plants() {
		spots := g.spots()
		for level := -1; level <= 8; level++ {
			for index := -2; index <= 1<<max(level, 0)+1; index++ {
				want, there := spots[at(level, index)]
				if !there {
					want = -1
				}
				if got := At(g.l, at(level, index)); got != want {
					t.Errorf("%s: at %d, %d: spot %d, want %d", g.name, level, index, got, want)
				}
			}
		}
	}
}

// P10.2: Of and Way, of each member of trees of all shapes.
func TestOfWay(t *testing.T) {
	for _, g := range plants() {
		for spot, path := range g.paths {
			if !g.l[spot].Leaf {
				continue
			}
			if x, ok := Of(g.l, g.l[spot].Who); x != along(path) || !ok {
				t.Errorf("%s: at %q stands %v, but is told at %v, %v", g.name, path, g.l[spot].Who, x, ok)
			}
			var want []api.Label
			for depth := len(path); depth >= 0; depth-- {
				want = append(want, along(path[:depth]))
			}
			if way := Way(g.l, g.l[spot].Who); !slices.Equal(way, want) {
				t.Errorf("%s: the way from %q: %v", g.name, path, way)
			}
		}
	}
}

// absent tells where a member is told to be where it isn't.
func absent(t *testing.T, what string, l []api.Spot, m api.Member) {
	t.Helper()
	if x, ok := Of(l, m); x != at(0, 0) || ok {
		t.Errorf("%s: %v stands at %v, %v", what, m, x, ok)
	}
	if way := Way(l, m); len(way) != 0 {
		t.Errorf("%s: %v goes by %v", what, m, way)
	}
}

// P10.2: Of and Way, of who isn't in the tree: nobody, the same node in
// another life, the same life of another node, and who may be no member.
func TestOfWayOfOthers(t *testing.T) {
	for _, g := range plants() {
		members := tree.Leaves(g.l)
		for _, m := range members {
			for _, other := range []api.Member{life(m.Node, m.Inc+100), life(m.Node, m.Inc-100), life(m.Node, 0), life(m.Node, -m.Inc), life(m.Node+100, m.Inc), life(-1-m.Node, m.Inc), life(m.Node, m.Inc+1<<32), life(m.Node+1<<32, m.Inc)} {
				absent(t, g.name, g.l, other)
			}
		}
		for _, m := range []api.Member{{}, nth(len(members)), life(7, 1<<31-1), life(8, 1), life(-1, 1), life(math.MaxInt, math.MaxInt), life(math.MinInt, math.MinInt)} {
			absent(t, g.name, g.l, m)
		}
	}
}

// P10.2: Of and Way, of a node's two lives, both in the tree, and of a third.
func TestOfWayOfLives(t *testing.T) {
	l := tree.Join(tree.Join(tree.Leaf(life(3, 1)), tree.Leaf(life(4, 1))), tree.Leaf(life(3, 2)))
	for m, want := range map[api.Member]api.Label{life(3, 1): at(2, 0), life(4, 1): at(2, 1), life(3, 2): at(1, 1)} {
		if x, ok := Of(l, m); x != want || !ok {
			t.Errorf("%v stands at %v, %v", m, x, ok)
		}
	}
	absent(t, "another life", l, life(3, 3))
	absent(t, "another life", l, life(4, 2))
}

// P10.2: Of and Way, of nothing; of a member in the spare room alone.
func TestOfWayOfNothing(t *testing.T) {
	room := []api.Spot{inner(), leaf(0), leaf(1)}
	for _, l := range [][]api.Spot{nil, {}, room[:0]} {
		for _, m := range []api.Member{{}, nth(0), nth(1), life(-1, -1)} {
			absent(t, "nothing", l, m)
		}
	}
	absent(t, "a leaf, and more in the spare room", room[1:2], nth(1))
}

// P10.3: at its label a member stands, alone: there is just its leaf, and all
// other members' labels are others.
func TestStandsAlone(t *testing.T) {
	for _, g := range plants() {
		seen := map[api.Label]api.Member{}
		for _, m := range tree.Leaves(g.l) {
			x, ok := Of(g.l, m)
			if !ok || !Right(x) {
				t.Errorf("%s: %v stands at %v, %v", g.name, m, x, ok)
				continue
			}
			if other, there := seen[x]; there {
				t.Errorf("%s: %v and %v stand at %v", g.name, other, m, x)
			}
			seen[x] = m
			if part := Part(g.l, x); !slices.Equal(part, tree.Leaf(m)) {
				t.Errorf("%s: at %v, %v's label: %v", g.name, x, m, part)
			}
			if spot := At(g.l, x); spot < 0 || g.l[spot] != (api.Spot{Leaf: true, Who: m}) {
				t.Errorf("%s: at %v, %v's label: spot %d", g.name, x, m, spot)
			}
		}
	}
}

// P10.1, P10.2: along a member's way each part holds it, and is the half of
// the next one; the other half is beside it.
func TestAlongTheWay(t *testing.T) {
	for _, g := range plants() {
		for _, m := range tree.Leaves(g.l) {
			below := []api.Spot(nil)
			for _, x := range Way(g.l, m) {
				part := Part(g.l, x)
				a, b, _ := tree.Halves(part)
				if below != nil && !slices.Equal(a, below) && !slices.Equal(b, below) || !slices.Contains(tree.Leaves(part), m) {
					t.Errorf("%s: %v's way, at %v: %v", g.name, m, x, part)
				}
				beside, ok := Beside(x)
				if ok && At(g.l, beside) < 0 {
					t.Errorf("%s: %v's way, beside %v: nothing", g.name, m, x)
				}
				below = part
			}
			if !slices.Equal(below, g.l) {
				t.Errorf("%s: %v's way ends at %v", g.name, m, below)
			}
		}
	}
}

// askAll makes every call of l that a test can think of, and tells where one
// answers what no list allows.
func askAll(t *testing.T, what string, l []api.Spot) {
	t.Helper()
	labels := append(wrong(), at(0, 0), at(1, 0), at(1, 1), at(2, 0), at(2, 1), at(2, 2), at(2, 3), at(3, 0), at(60, 0), at(60, 1), at(60, 1<<60-1))
	for _, x := range labels {
		got, part := At(l, x), Part(l, x)
		if got < -1 || got >= len(l) || !mayBe(x) && got != -1 || got == -1 && len(part) != 0 {
			t.Errorf("%s: at %v: spot %d, %v", what, x, got, part)
		}
		if len(part) != 0 && (got == -1 || got+len(part) > len(l) || !slices.Equal(part, l[got:got+len(part)])) {
			t.Errorf("%s: at %v, spot %d: %v", what, x, got, part)
		}
	}
	for _, m := range []api.Member{{}, nth(0), nth(1), nth(2), nth(40), nth(61), nth(62), nth(999), life(-1, math.MinInt), life(math.MaxInt, 0)} {
		x, ok := Of(l, m)
		way := Way(l, m)
		if !ok && (x != at(0, 0) || len(way) != 0) {
			t.Errorf("%s: %v stands at %v, %v, and goes by %v", what, m, x, ok, way)
		}
		if ok && (!mayBe(x) || len(way) != x.Level+1 || way[0] != x || way[x.Level] != at(0, 0) || !slices.Equal(Part(l, x), tree.Leaf(m))) {
			t.Errorf("%s: %v stands at %v, %v, and goes by %v", what, m, x, ok, way)
		}
	}
}

// P1: lists that may be no trees: no call panics, and what is answered is
// there.
func TestCrooked(t *testing.T) {
	for what, l := range crooked() {
		askAll(t, what, l)
	}
	for _, g := range plants() {
		for count := range g.l {
			askAll(t, g.name+", cut off", g.l[:count])
		}
	}
}

// P1: trees that are more than 60 high: no call panics; who stands deeper than
// labels go is told nowhere, and all others at their places.
func TestTooHigh(t *testing.T) {
	for _, g := range tooHigh() {
		askAll(t, g.name, g.l)
		for spot, path := range g.paths {
			if len(path) <= 60 && At(g.l, along(path)) != spot {
				t.Errorf("%s: at %q: spot %d, want %d", g.name, path, At(g.l, along(path)), spot)
			}
			if !g.l[spot].Leaf {
				continue
			}
			if len(path) > 60 {
				absent(t, g.name, g.l, g.l[spot].Who)
			} else if x, ok := Of(g.l, g.l[spot].Who); x != along(path) || !ok {
				t.Errorf("%s: at %q stands %v, but is told at %v, %v", g.name, path, g.l[spot].Who, x, ok)
			}
		}
	}
}

// Rule 3: what is handed in is as it was, its spare room too, and no answer
// shares memory with it, or with another.
func TestNothingChanges(t *testing.T) {
	lists := crooked()
	for _, g := range append(plants(), tooHigh()...) {
		lists[g.name] = g.l
	}
	for what, given := range lists {
		all := append(slices.Clone(given), leaf(90), inner(), leaf(91), leaf(92))
		was := slices.Clone(all)
		l := all[:len(given)]
		for _, x := range []api.Label{at(0, 0), at(1, 0), at(1, 1), at(60, 0), at(61, 0), at(-1, -1)} {
			At(l, x)
			part := Part(l, x)
			again := slices.Clone(part)
			other := Part(l, x)
			clear(other[:cap(other)])
			if !slices.Equal(part, again) {
				t.Errorf("%s: the part at %v is shared", what, x)
			}
			clear(part[:cap(part)])
		}
		for _, m := range []api.Member{nth(0), nth(1), nth(90), {}} {
			Of(l, m)
			way := Way(l, m)
			again := slices.Clone(way)
			other := Way(l, m)
			clear(other[:cap(other)])
			if !slices.Equal(way, again) {
				t.Errorf("%s: %v's way is shared", what, m)
			}
		}
		if !slices.Equal(all, was) {
			t.Errorf("%s: is changed, or shared", what)
		}
	}
}

// Rules 4 and 6: the same arguments come to the same, in whatever goroutine.
func TestManyAtOnce(t *testing.T) {
	g := plant("to the left", 61, toLeft)
	spots := g.spots()
	var workers sync.WaitGroup
	for range 8 {
		workers.Go(func() {
			got := map[api.Label]int{}
			for spot, path := range g.paths {
				x := along(path)
				got[x] = At(g.l, x)
				if !g.l[spot].Leaf {
					continue
				}
				if is, ok := Of(g.l, g.l[spot].Who); is != x || !ok || len(Way(g.l, g.l[spot].Who)) != len(path)+1 || len(Part(g.l, x)) != 1 {
					t.Error("at once: not the same")
				}
			}
			if !maps.Equal(got, spots) {
				t.Error("at once: not the same spots")
			}
		})
	}
	workers.Wait()
}

// P1: no call panics, at any arguments; each answer is right at all of them.
func FuzzAll(f *testing.F) {
	for _, g := range append(plants(), tooHigh()...) {
		raw := make([]byte, len(g.l))
		for i, spot := range g.l {
			raw[i] = byte(8 * spot.Who.Inc)
			if spot.Leaf {
				raw[i] |= byte(spot.Who.Node)
			}
		}
		f.Add(raw, 2, 1, 1, 1)
	}
	for _, x := range wrong() {
		f.Add([]byte{0, 0, 8, 9, 10}, x.Level, x.Index, x.Level, x.Index)
	}
	f.Fuzz(func(t *testing.T, raw []byte, level, index, node, inc int) {
		l := make([]api.Spot, len(raw))
		for i, b := range raw {
			if b >= 8 {
				l[i] = api.Spot{Leaf: true, Who: life(int(b%8), int(b/8))}
			}
		}
		was := slices.Clone(l)
		x, m := at(level, index), life(node, inc)
		if Right(x) != mayBe(x) {
			t.Errorf("Right: %v", Right(x))
		}
		up, is := Up(x)
		beside, also := Beside(x)
		if half := mayBe(x) && level > 0; is != half || also != half {
			t.Errorf("Up: %v, Beside: %v", is, also)
		}
		if is && (up.Level != level-1 || 2*up.Index > index || 2*up.Index+1 < index || beside.Level != level || beside.Index+index != 4*up.Index+1) {
			t.Errorf("Up: %v, Beside: %v", up, beside)
		}
		askAll(t, "any list", l)
		Of(l, m)
		Way(l, m)
		if spot := At(l, x); is && spot >= 0 && (At(l, up) < 0 || l[At(l, up)].Leaf) {
			t.Errorf("At: %d, but nothing above", spot)
		}
		if tree.Right(l) && tree.Height(l) <= 60 {
			for _, who := range tree.Leaves(l) {
				if place, ok := Of(l, who); !ok || !slices.Equal(Part(l, place), tree.Leaf(who)) {
					t.Errorf("%v is told at %v, %v", who, place, ok)
				}
			}
		}
		if !slices.Equal(l, was) {
			t.Error("the list is changed")
		}
	})
}
