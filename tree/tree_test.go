package tree

import (
	"encoding/binary"
	"math"
	"math/rand"
	"slices"
	"sync"
	"testing"

	"lodge/api"
	"lodge/lay"
)

// plant is a tree with halves of its own, to hold the lists against: a leaf
// has none.
type plant struct {
	who         api.Member
	left, right *plant
}

func life(node, inc int) api.Member { return api.Member{Node: node, Inc: inc} }

// nth is the member of the number n: no two numbers have the same.
func nth(n int) api.Member { return life(n%8, 1+n/8) }

func inner() api.Spot { return api.Spot{} }

func at(n int) api.Spot { return api.Spot{Leaf: true, Who: nth(n)} }

// list are a plant's spots, in the chapter's order.
func (p *plant) list() []api.Spot { return p.behind(nil) }

// behind lays a plant's spots behind l.
func (p *plant) behind(l []api.Spot) []api.Spot {
	if p == nil {
		return l
	}
	if p.left == nil {
		return append(l, api.Spot{Leaf: true, Who: p.who})
	}
	return p.right.behind(p.left.behind(append(l, inner())))
}

func (p *plant) members() []api.Member {
	if p == nil {
		return nil
	}
	if p.left == nil {
		return []api.Member{p.who}
	}
	return append(p.left.members(), p.right.members()...)
}

func (p *plant) height() int {
	if p == nil {
		return -1
	}
	if p.left == nil {
		return 0
	}
	return 1 + max(p.left.height(), p.right.height())
}

func (p *plant) bytes() string {
	if p.left == nil {
		return four(1) + four(uint32(p.who.Node)) + four(uint32(p.who.Inc))
	}
	return four(0) + p.left.bytes() + p.right.bytes()
}

// parts are all parts of a plant, in the order in which they begin.
func (p *plant) parts() []*plant {
	if p == nil {
		return nil
	}
	if p.left == nil {
		return []*plant{p}
	}
	return append(append([]*plant{p}, p.left.parts()...), p.right.parts()...)
}

// four are the bytes of a number of 32 bits, by the library's means alone.
func four(n uint32) string { return string(binary.BigEndian.AppendUint32(nil, n)) }

// laid are the bytes of a list of spots, whatever it is.
func laid(l []api.Spot) string {
	s := four(uint32(len(l)))
	for _, spot := range l {
		if spot.Leaf {
			s += four(1) + four(uint32(spot.Who.Node)&(1<<31-1)) + four(uint32(spot.Who.Inc)&(1<<31-1))
		} else {
			s += four(0)
		}
	}
	return s
}

// grow is a plant of the members from first up to below end: cut says how many
// of as many go to the left.
func grow(first, end int, cut func(count int) int) *plant {
	if first >= end {
		return nil
	}
	if end-first == 1 {
		return &plant{who: nth(first)}
	}
	middle := first + cut(end-first)
	return &plant{left: grow(first, middle, cut), right: grow(middle, end, cut)}
}

func toLeft(count int) int  { return count - 1 }
func toRight(int) int       { return 1 }
func even(count int) int    { return count / 2 }
func unlike(count int) int  { return 1 + (count-1)/3 }
func byTurns(count int) int { return 1 + (count%2)*(count-2) }

func random(r *rand.Rand) func(int) int {
	return func(count int) int { return 1 + r.Intn(count-1) }
}

// plants are trees that may be, of many shapes; nil is nothing.
func plants() []*plant {
	all := []*plant{nil}
	r := rand.New(rand.NewSource(9))
	for _, count := range []int{1, 2, 3, 4, 5, 7, 8, 13, 31, 32, 33, 63, 64} {
		for _, cut := range []func(int) int{toLeft, toRight, even, unlike, byTurns, random(r), random(r)} {
			all = append(all, grow(0, count, cut))
		}
	}
	return all
}

// crooked are lists that may be no trees: what, and why not.
func crooked() map[string][]api.Spot {
	two := []api.Spot{inner(), at(0), at(1)}
	all := map[string][]api.Spot{
		"an inner spot alone":             {inner()},
		"inner spots alone":               {inner(), inner(), inner()},
		"two leaves":                      {at(0), at(1)},
		"a leaf, then an inner spot":      {at(0), inner()},
		"one half alone":                  {inner(), at(0)},
		"halves ahead of their spot":      {at(0), at(1), inner()},
		"three halves":                    {inner(), at(0), at(1), at(2)},
		"two trees":                       append(slices.Clone(two), inner(), at(2), at(3)),
		"an inner spot behind":            append(slices.Clone(two), inner()),
		"the right half not ended":        {inner(), at(0), inner(), at(1)},
		"the left half not ended":         {inner(), inner(), at(0), at(1)},
		"somebody's inner spot":           {{Who: life(3, 1)}, at(0), at(1)},
		"an inner spot with a node alone": {{Who: life(3, 0)}, at(0), at(1)},
		"an inner spot with a life alone": {{Who: life(0, 1)}, at(0), at(1)},
		"an inner spot of node -1":        {{Who: life(-1, 0)}, at(0), at(1)},
		"the least of all inner spots":    {{Who: life(math.MinInt, math.MinInt)}, at(0), at(1)},
		"somebody's, further down":        {inner(), {Who: life(3, 1)}, at(0), at(1), at(2)},
		"somebody's, to the right":        {inner(), at(0), {Who: life(3, 1)}, at(1), at(2)},
		"one member twice":                {inner(), at(1), at(1)},
		"one twice, in both halves":       {inner(), inner(), at(0), at(1), inner(), at(2), at(0)},
		"one twice, side by side":         {inner(), inner(), at(0), at(0), at(1)},
		"the last two the same":           {inner(), at(0), inner(), at(1), at(1)},
		"65 leaves to the left":           grow(0, 65, toLeft).list(),
		"65 leaves to the right":          grow(0, 65, toRight).list(),
		"65 leaves, evenly":               grow(0, 65, even).list(),
		"128 leaves":                      grow(0, 128, even).list(),
		"1000 leaves":                     grow(0, 1000, even).list(),
		"128 inner spots":                 make([]api.Spot, 128),
		"128 spots":                       append(grow(0, 64, even).list(), at(64)),
		"129 inner spots":                 make([]api.Spot, 129),
	}
	for what, m := range strangers() {
		all[what+", alone"] = []api.Spot{{Leaf: true, Who: m}}
		all[what+", to the left"] = []api.Spot{inner(), {Leaf: true, Who: m}, at(1)}
		all[what+", to the right"] = []api.Spot{inner(), at(0), {Leaf: true, Who: m}}
		all[what+", in the middle"] = []api.Spot{inner(), inner(), at(0), {Leaf: true, Who: m}, at(2)}
	}
	return all
}

// strangers are those who may not be members, at each edge.
func strangers() map[string]api.Member {
	return map[string]api.Member{
		"nobody":            life(0, 0),
		"node 8":            life(8, 1),
		"node -1":           life(-1, 1),
		"the greatest node": life(math.MaxInt, 1),
		"the least node":    life(math.MinInt, 1),
		"node 2^32":         life(1<<32, 1),
		"life 0":            life(7, 0),
		"life -1":           life(1, -1),
		"life 2^31":         life(1, 1<<31),
		"life 2^31 and 1":   life(1, 1<<31+1),
		"life 2^32 and 1":   life(1, 1<<32+1),
		"the greatest life": life(1, math.MaxInt),
		"the least life":    life(1, math.MinInt),
	}
}

// lists are those that may be and those that may not.
func lists() [][]api.Spot {
	var all [][]api.Spot
	for _, p := range plants() {
		all = append(all, p.list())
	}
	for _, l := range crooked() {
		all = append(all, l)
	}
	return all
}

// whole tells by recursion how many spots l begins with that are one part; 0,
// if it doesn't end.
func whole(l []api.Spot) int {
	if len(l) == 0 {
		return 0
	}
	if l[0].Leaf {
		return 1
	}
	left := whole(l[1:])
	if left == 0 {
		return 0
	}
	right := whole(l[1+left:])
	if right == 0 {
		return 0
	}
	return 1 + left + right
}

// mayBe is the chapter's rule for a tree, word by word.
func mayBe(l []api.Spot) bool {
	leaves := 0
	seen := map[api.Member]int{}
	for _, spot := range l {
		if !spot.Leaf && spot.Who != life(0, 0) {
			return false
		}
		if !spot.Leaf {
			continue
		}
		leaves++
		seen[spot.Who]++
		if spot.Who.Node < 0 || spot.Who.Node > 7 || spot.Who.Inc < 1 || int64(spot.Who.Inc) > 1<<31-1 || seen[spot.Who] > 1 {
			return false
		}
	}
	return len(l) <= 128 && leaves <= 64 && whole(l) == len(l)
}

// endOf is where the part that begins at a spot is to end.
func endOf(l []api.Spot, at int) int {
	if at < 0 || at >= len(l) {
		return -1
	}
	count := whole(l[at:])
	if count == 0 {
		return -1
	}
	return at + count
}

// readTree is what Read is to answer of l, and to leave, by the library's
// means alone.
func readTree(l lay.Left) ([]api.Spot, lay.Left) {
	next := func(most int64) int {
		if l.Bad || len(l.S) < 4 {
			l.Bad = true
			return 0
		}
		n := int64(binary.BigEndian.Uint32([]byte(l.S)))
		l = lay.Left{S: l.S[4:], Bad: n > most}
		return int(n)
	}
	var got []api.Spot
	for count := next(128); count > 0 && !l.Bad; count-- {
		spot := api.Spot{Leaf: next(1) == 1}
		if spot.Leaf {
			spot.Who = life(next(7), next(1<<31-1))
			l.Bad = l.Bad || spot.Who.Inc == 0
		}
		got = append(got, spot)
	}
	if l.Bad || !mayBe(got) {
		return nil, lay.Left{S: l.S, Bad: true}
	}
	return got, l
}

// reads tells where Read reads otherwise than it must.
func reads(t *testing.T, what string, l *lay.Left) {
	t.Helper()
	before := *l
	want, after := readTree(before)
	if got := Read(l); !slices.Equal(got, want) {
		t.Errorf("%s: %q is read as %v, want %v", what, before.S, got, want)
	}
	if *l != after {
		t.Errorf("%s: left is %q, Bad %v, want %q, Bad %v", what, l.S, l.Bad, after.S, after.Bad)
	}
	if l.Bad {
		staysBad(t, what, l)
	}
}

// staysBad tells where a Left that is Bad is read from, or turns good.
func staysBad(t *testing.T, what string, l *lay.Left) {
	t.Helper()
	// More to read does not make it good.
	after := lay.Left{S: l.S + laid([]api.Spot{at(0)}) + laid(nil), Bad: true}
	again := &lay.Left{S: after.S, Bad: l.Bad}
	for range 3 {
		if got := Read(again); len(got) != 0 {
			t.Errorf("%s: Bad, and then %v is read", what, got)
		}
		if *again != after || again.Done() {
			t.Errorf("%s: does not stay Bad", what)
		}
	}
}

// refuses tells where Read takes s for a tree.
func refuses(t *testing.T, what, s string) {
	t.Helper()
	l := &lay.Left{S: s}
	if got := Read(l); len(got) != 0 || !l.Bad {
		t.Errorf("%s: read as %v, Bad %v", what, got, l.Bad)
	}
	reads(t, what, &lay.Left{S: s})
}

// P9.1: the chapter's example.
func TestExample(t *testing.T) {
	want := []api.Spot{inner(), inner(), at(0), at(1), at(2)}
	l := Join(Join(Leaf(nth(0)), Leaf(nth(1))), Leaf(nth(2)))
	if !slices.Equal(l, want) {
		t.Errorf("((0 1) 2): %v", l)
	}
	a, b, ok := Halves(want)
	if !slices.Equal(a, want[1:4]) || !slices.Equal(b, want[4:]) || !ok {
		t.Errorf("its halves: %v, %v, %v", a, b, ok)
	}
	if !Right(want) || Height(want) != 2 || !slices.Equal(Leaves(want), []api.Member{nth(0), nth(1), nth(2)}) {
		t.Error("it may not be, or is of another height, or has other leaves")
	}
	for i, end := range []int{5, 4, 3, 4, 5} {
		if got := End(want, i); got != end {
			t.Errorf("the part from %d on ends at %d, want %d", i, got, end)
		}
	}
}

// P9.1: End, at every spot of trees of several shapes, with more behind them
// and with none.
func TestEnd(t *testing.T) {
	for _, p := range plants() {
		l := p.list()
		for i, part := range p.parts() {
			want := i + len(part.list())
			for _, more := range [][]api.Spot{nil, {at(99)}, {inner()}, {inner(), at(98), at(99)}} {
				if got := End(append(slices.Clone(l), more...), i); got != want {
					t.Errorf("the part from %d on of %v, and %v behind: ends at %d, want %d", i, l, more, got, want)
				}
			}
		}
	}
}

// P9.1: End, at places that are none.
func TestEndNowhere(t *testing.T) {
	for _, l := range lists() {
		for _, place := range []int{-1, -2, -len(l), -len(l) - 1, len(l), len(l) + 1, len(l) + 2, 2*len(l) + 1, math.MaxInt, math.MaxInt - 1, math.MaxInt - len(l), math.MinInt, math.MinInt + 1, math.MinInt + len(l)} {
			if place >= 0 && place < len(l) {
				continue
			}
			if got := End(l, place); got != -1 {
				t.Errorf("at %d of %d spots: %d", place, len(l), got)
			}
		}
	}
	room := []api.Spot{inner(), at(0), at(1)}
	if got := End(room[:2], 0); got != -1 {
		t.Errorf("a part that ends in the spare room: %d", got)
	}
	if got := End(room[:2], 2); got != -1 {
		t.Errorf("a spot of the spare room: %d", got)
	}
}

// P9.1: End, of lists cut off at each place, at each of their spots: there is
// one where the part ended ahead of that.
func TestEndCutOff(t *testing.T) {
	for _, p := range plants() {
		l := p.list()
		for count := range l {
			for i := range count {
				want := End(l, i)
				if want > count {
					want = -1
				}
				if got := End(l[:count], i); got != want {
					t.Errorf("%v, cut off behind %d, from %d on: ends at %d, want %d", l, count, i, got, want)
				}
			}
		}
	}
}

// P9.1: End, of lists that may be no trees.
func TestEndCrooked(t *testing.T) {
	for what, l := range crooked() {
		for i := range l {
			if got := End(l, i); got != endOf(l, i) {
				t.Errorf("%s: from %d on: ends at %d, want %d", what, i, got, endOf(l, i))
			}
		}
	}
}

// P9.1: Leaves, of lists that may be trees and of others.
func TestLeaves(t *testing.T) {
	for _, p := range plants() {
		if got := Leaves(p.list()); !slices.Equal(got, p.members()) {
			t.Errorf("of %v: %v", p.list(), got)
		}
	}
	for what, c := range map[string]struct {
		l    []api.Spot
		want []api.Member
	}{
		"none":                 {[]api.Spot{}, nil},
		"inner spots alone":    {[]api.Spot{inner(), inner()}, nil},
		"somebody's inner one": {[]api.Spot{{Who: life(3, 1)}, at(2)}, []api.Member{nth(2)}},
		"no whole tree":        {[]api.Spot{at(5), inner(), at(3), at(4)}, []api.Member{nth(5), nth(3), nth(4)}},
		"one twice":            {[]api.Spot{inner(), at(1), at(1)}, []api.Member{nth(1), nth(1)}},
		"nobody's leaf":        {[]api.Spot{{Leaf: true}}, []api.Member{life(0, 0)}},
		"who may not be":       {[]api.Spot{{Leaf: true, Who: life(-1, math.MaxInt)}}, []api.Member{life(-1, math.MaxInt)}},
	} {
		if got := Leaves(c.l); !slices.Equal(got, c.want) {
			t.Errorf("%s: %v", what, got)
		}
	}
}

// P9.1: Right, of trees of many shapes, 64 leaves high and wide; of each cut
// off at each place, and with more behind it, no longer.
func TestRight(t *testing.T) {
	if !Right(nil) || !Right([]api.Spot{}) {
		t.Error("nothing may not be")
	}
	for _, p := range plants()[1:] {
		l := p.list()
		if !Right(l) {
			t.Errorf("%v may not be", l)
		}
		for count := 1; count < len(l); count++ {
			if Right(l[:count]) {
				t.Errorf("%v, cut off behind %d, may be", l, count)
			}
		}
		for _, more := range [][]api.Spot{{at(99)}, {inner()}, {inner(), at(98), at(99)}, l} {
			if Right(append(slices.Clone(l), more...)) {
				t.Errorf("%v, and %v behind it, may be", l, more)
			}
		}
	}
}

// P9.1: Right, of 64 leaves and 65, 127 spots and more, of each shape.
func TestRightGreatest(t *testing.T) {
	for _, cut := range []func(int) int{toLeft, toRight, even, unlike, byTurns} {
		if l := grow(0, 64, cut).list(); len(l) != 127 || !Right(l) {
			t.Errorf("64 leaves, %d spots: may not be", len(l))
		}
		for _, count := range []int{65, 66, 128, 4000} {
			if l := grow(0, count, cut).list(); Right(l) {
				t.Errorf("%d leaves, %d spots: may be", count, len(l))
			}
		}
	}
}

// P9.1: Right, of lists that may be no trees, each for a reason of its own.
func TestRightCrooked(t *testing.T) {
	for what, l := range crooked() {
		if Right(l) {
			t.Errorf("%s: may be", what)
		}
	}
}

// P9.1: Right, at each edge of a member, of a leaf at each place.
func TestRightMembers(t *testing.T) {
	for _, m := range []api.Member{life(0, 1), life(7, 1), life(0, 1<<31-1), life(7, 1<<31-1), life(3, 2)} {
		for what, l := range map[string][]api.Spot{
			"alone":          {{Leaf: true, Who: m}},
			"to the left":    {inner(), {Leaf: true, Who: m}, {Leaf: true, Who: life(5, 5)}},
			"to the right":   {inner(), {Leaf: true, Who: life(5, 5)}, {Leaf: true, Who: m}},
			"a node's other": {inner(), {Leaf: true, Who: life(m.Node, 9)}, {Leaf: true, Who: m}},
		} {
			if !Right(l) {
				t.Errorf("%v, %s: may not be", m, what)
			}
		}
	}
}

// P9.1: Right, of any one of 64 leaves that is another one's member.
func TestRightEachOnce(t *testing.T) {
	l := grow(0, 64, even).list()
	for i := range l {
		for _, j := range []int{6, 63, 64, 126} {
			if !l[i].Leaf || !l[j].Leaf || i == j {
				continue
			}
			other := slices.Clone(l)
			other[i] = l[j]
			if Right(other) {
				t.Errorf("spot %d as at %d: may be", i, j)
			}
		}
	}
}

// P9.1: Right, of all lists of up to five spots: by the chapter's words.
func TestRightAll(t *testing.T) {
	kinds := []api.Spot{inner(), at(0), at(1), at(2), {Who: life(1, 1)}, {Leaf: true}}
	level := [][]api.Spot{nil}
	for range 6 {
		var next [][]api.Spot
		for _, l := range level {
			if Right(l) != mayBe(l) {
				t.Fatalf("%v: %v", l, Right(l))
			}
			for _, kind := range kinds {
				next = append(next, append(slices.Clone(l), kind))
			}
		}
		level = next
	}
}

// P9.1: Leaf, of any member; of one that may be it may be.
func TestLeaf(t *testing.T) {
	for _, m := range []api.Member{life(0, 1), life(2, 1), life(7, 1<<31-1)} {
		if l := Leaf(m); !slices.Equal(l, []api.Spot{{Leaf: true, Who: m}}) || !Right(l) {
			t.Errorf("of %v: %v", m, l)
		}
	}
	for what, m := range strangers() {
		if l := Leaf(m); !slices.Equal(l, []api.Spot{{Leaf: true, Who: m}}) || Right(l) {
			t.Errorf("of %s: %v", what, l)
		}
	}
}

// P9.1: Join, of any two, and of nothing.
func TestJoin(t *testing.T) {
	for _, none := range [][]api.Spot{nil, {}} {
		if l := Join(none, nil); len(l) != 0 {
			t.Errorf("nothing and nothing: %v", l)
		}
		if l := Join(nil, none); len(l) != 0 {
			t.Errorf("nothing and nothing: %v", l)
		}
		for _, l := range lists() {
			if got := Join(none, l); !slices.Equal(got, l) {
				t.Errorf("nothing and %v: %v", l, got)
			}
			if got := Join(l, none); !slices.Equal(got, l) {
				t.Errorf("%v and nothing: %v", l, got)
			}
		}
	}
	for _, a := range plants()[1:] {
		for _, b := range plants()[1:] {
			if got := Join(a.list(), b.list()); !slices.Equal(got, (&plant{left: a, right: b}).list()) {
				t.Errorf("%v and %v: %v", a.list(), b.list(), got)
			}
		}
	}
	if l := Join([]api.Spot{inner()}, []api.Spot{at(0), at(1)}); !slices.Equal(l, []api.Spot{inner(), inner(), at(0), at(1)}) {
		t.Errorf("two that may be no trees: %v", l)
	}
}

// P9.1: Join of two that may be may be, if no member is in both, and they have
// at most 64 leaves together.
func TestJoinRight(t *testing.T) {
	for _, c := range []struct {
		what     string
		a, b     []api.Spot
		together bool
	}{
		{"apart", grow(0, 30, even).list(), grow(30, 64, toLeft).list(), true},
		{"32 each", grow(0, 32, toRight).list(), grow(32, 64, even).list(), true},
		{"one too many", grow(0, 33, even).list(), grow(33, 65, even).list(), false},
		{"one in both", grow(0, 5, even).list(), grow(4, 9, even).list(), false},
		{"the same twice", grow(0, 1, even).list(), grow(0, 1, even).list(), false},
		{"one and all others", grow(0, 1, even).list(), grow(1, 64, toRight).list(), true},
	} {
		if got := Right(Join(c.a, c.b)); got != c.together {
			t.Errorf("%s: %v", c.what, got)
		}
	}
}

// P9.1: Halves, of trees of all shapes and of all their parts; none of a leaf
// and of nothing.
func TestHalves(t *testing.T) {
	for _, p := range plants() {
		for _, part := range p.parts() {
			a, b, ok := Halves(part.list())
			if !slices.Equal(a, part.left.list()) || !slices.Equal(b, part.right.list()) || ok != (part.left != nil) {
				t.Errorf("of %v: %v, %v, %v", part.list(), a, b, ok)
			}
			if ok && !slices.Equal(Join(a, b), part.list()) {
				t.Errorf("the halves of %v, joined: %v", part.list(), Join(a, b))
			}
		}
	}
	for what, l := range map[string][]api.Spot{"nil": nil, "nothing": {}, "a leaf": {at(3)}} {
		if a, b, ok := Halves(l); len(a) != 0 || len(b) != 0 || ok {
			t.Errorf("of %s: %v, %v, %v", what, a, b, ok)
		}
	}
}

// P1: Halves, of what may be no tree: no panic, and beside false nothing.
func TestHalvesCrooked(t *testing.T) {
	for what, l := range crooked() {
		a, b, ok := Halves(l)
		if !ok && (len(a) != 0 || len(b) != 0) {
			t.Errorf("%s: false, but %v and %v", what, a, b)
		}
		if ok && (len(a)+len(b) != len(l)-1 || whole(a) != len(a) || whole(b) != len(b)) {
			t.Errorf("%s: true, but %v and %v", what, a, b)
		}
	}
}

// P9.1: Height, at its edges written out.
func TestHeightEdges(t *testing.T) {
	for _, c := range []struct {
		what string
		l    []api.Spot
		want int
	}{
		{"nil", nil, -1},
		{"nothing", []api.Spot{}, -1},
		{"a leaf", []api.Spot{at(0)}, 0},
		{"two leaves", []api.Spot{inner(), at(0), at(1)}, 1},
		{"((0 1) 2)", []api.Spot{inner(), inner(), at(0), at(1), at(2)}, 2},
		{"(0 (1 2))", []api.Spot{inner(), at(0), inner(), at(1), at(2)}, 2},
		{"((0 1) (2 3))", []api.Spot{inner(), inner(), at(0), at(1), inner(), at(2), at(3)}, 2},
		{"((0 (1 2)) 3)", []api.Spot{inner(), inner(), at(0), inner(), at(1), at(2), at(3)}, 3},
		{"64 to the left", grow(0, 64, toLeft).list(), 63},
		{"64 to the right", grow(0, 64, toRight).list(), 63},
		{"64, evenly", grow(0, 64, even).list(), 6},
		{"63, evenly", grow(0, 63, even).list(), 6},
		{"33, evenly", grow(0, 33, even).list(), 6},
		{"32, evenly", grow(0, 32, even).list(), 5},
		{"as deep as is promised", grow(0, 1<<16, toLeft).list(), 1<<16 - 1},
		{"one member twice", []api.Spot{inner(), at(1), at(1)}, 1},
	} {
		if got := Height(c.l); got != c.want {
			t.Errorf("%s: %d, want %d", c.what, got, c.want)
		}
	}
}

// P9.1: Height, of trees of all shapes and of all their parts.
func TestHeight(t *testing.T) {
	for _, p := range plants() {
		if got := Height(p.list()); got != p.height() {
			t.Errorf("of %v: %d, want %d", p.list(), got, p.height())
		}
		for _, part := range p.parts() {
			if got := Height(part.list()); got != part.height() {
				t.Errorf("of %v: %d, want %d", part.list(), got, part.height())
			}
		}
	}
}

// P1: Height, of lists that are no whole trees: of the leaves that are there
// the deepest one's, and of none as of nothing.
func TestHeightCrooked(t *testing.T) {
	for what, c := range map[string]struct {
		l    []api.Spot
		want int
	}{
		"an inner spot alone": {[]api.Spot{inner()}, -1},
		"inner spots alone":   {make([]api.Spot, 1<<16), -1},
		"one half alone":      {[]api.Spot{inner(), at(0)}, 1},
		"cut off":             {[]api.Spot{inner(), inner(), at(0)}, 2},
		"cut off, deeper":     {[]api.Spot{inner(), at(0), inner(), inner()}, 1},
		"two trees":           {[]api.Spot{at(0), inner(), at(1), at(2)}, 0},
		"65 leaves":           {grow(0, 65, toRight).list(), 64},
	} {
		if got := Height(c.l); got != c.want {
			t.Errorf("%s: %d, want %d", what, got, c.want)
		}
	}
}

// P9.1: Print, written out.
func TestPrintEdges(t *testing.T) {
	for _, c := range []struct {
		l    []api.Spot
		want string
	}{
		{nil, "\x00\x00\x00\x00"},
		{[]api.Spot{}, "\x00\x00\x00\x00"},
		{[]api.Spot{{Leaf: true, Who: life(7, 258)}}, "\x00\x00\x00\x01" + "\x00\x00\x00\x01\x00\x00\x00\x07\x00\x00\x01\x02"},
		{
			[]api.Spot{{}, {}, {Leaf: true, Who: life(0, 1)}, {Leaf: true, Who: life(1, 1)}, {Leaf: true, Who: life(2, 1)}},
			"\x00\x00\x00\x05" + "\x00\x00\x00\x00" + "\x00\x00\x00\x00" + "\x00\x00\x00\x01\x00\x00\x00\x00\x00\x00\x00\x01" + "\x00\x00\x00\x01\x00\x00\x00\x01\x00\x00\x00\x01" + "\x00\x00\x00\x01\x00\x00\x00\x02\x00\x00\x00\x01",
		},
		{[]api.Spot{{Who: life(3, 3)}}, "\x00\x00\x00\x01" + "\x00\x00\x00\x00"},
		{[]api.Spot{{Leaf: true, Who: life(-1, 1<<31)}}, "\x00\x00\x00\x01" + "\x00\x00\x00\x01\x7f\xff\xff\xff\x00\x00\x00\x00"},
	} {
		if got := Print(c.l); got != c.want {
			t.Errorf("%v: %q, want %q", c.l, got, c.want)
		}
	}
}

// P9.1: Print, of trees of all shapes, and of what may be none.
func TestPrint(t *testing.T) {
	for _, p := range plants()[1:] {
		if got := Print(p.list()); got != four(uint32(len(p.parts())))+p.bytes() {
			t.Errorf("of %v: %q", p.list(), got)
		}
	}
	for what, l := range crooked() {
		if got := Print(l); got != laid(l) {
			t.Errorf("%s: %q", what, got)
		}
	}
}

// P9.2: Read, of what may be: from just its bytes, with more behind them, and
// with fewer, cut off at each place.
func TestRead(t *testing.T) {
	for _, p := range plants() {
		l := p.list()
		s := laid(l)
		for _, more := range []string{"", "more", "\x00", s} {
			left := &lay.Left{S: s + more}
			if got := Read(left); !slices.Equal(got, l) || left.Bad || left.S != more {
				t.Errorf("%v, and %q behind it: %v, %q is left, Bad %v", l, more, got, left.S, left.Bad)
			}
		}
		for count := range s {
			refuses(t, "cut off", s[:count])
		}
	}
}

// P9.2: Read, of trees one behind the other, cut off at each place: up to
// there, and Bad from there on.
func TestOneBehindTheOther(t *testing.T) {
	row := []*plant{grow(0, 3, toLeft), nil, grow(3, 4, even), grow(0, 5, even), nil}
	s := ""
	for _, p := range row {
		s += laid(p.list())
	}
	for count := range len(s) + 1 {
		l := &lay.Left{S: s[:count]}
		for range row {
			reads(t, "in the row", l)
		}
		if l.Done() != (count == len(s)) {
			t.Errorf("cut off behind %d: Done is %v", count, l.Done())
		}
	}
}

// P9.2: Read, of how many spots are told: at most 128, of which no tree is; no
// more than there are, and none of them left out.
func TestReadCount(t *testing.T) {
	leaf := four(1) + four(2) + four(1)
	for _, count := range []uint32{129, 130, 256, 1 << 16, 1<<31 - 1, 1 << 31, 1<<31 + 1, 1<<32 - 1} {
		l := &lay.Left{S: four(count) + leaf}
		if got := Read(l); len(got) != 0 || *l != (lay.Left{S: leaf, Bad: true}) {
			t.Errorf("%d spots told: %v, %q is left, Bad %v", count, got, l.S, l.Bad)
		}
	}
	refuses(t, "128 spots told, one there", four(128)+leaf)
	refuses(t, "128 inner spots", laid(make([]api.Spot, 128)))
	refuses(t, "128 spots, a tree and a leaf", laid(append(grow(0, 64, even).list(), at(64))))
	refuses(t, "129 spots, a tree", laid(grow(0, 65, even).list()))
	refuses(t, "one spot fewer told", four(2)+four(0)+leaf+four(1)+four(3)+four(1))
	refuses(t, "one spot more told", four(4)+four(0)+leaf+four(1)+four(3)+four(1))
	whole := &lay.Left{S: laid(make([]api.Spot, 128)) + "more"}
	if got := Read(whole); len(got) != 0 || *whole != (lay.Left{S: "more", Bad: true}) {
		t.Errorf("128 spots are all to be read ahead of being none: %v, %q is left", got, whole.S)
	}
}

// P9.2: Read, of a spot's first number: 0 or 1 alone.
func TestReadMark(t *testing.T) {
	for _, mark := range []uint32{2, 3, 255, 256, 1 << 16, 1<<31 - 1, 1 << 31, 1<<31 + 1, 1<<32 - 1} {
		refuses(t, "a leaf of another mark", four(1)+four(mark)+four(2)+four(1))
		refuses(t, "an inner spot of another mark", four(3)+four(mark)+four(1)+four(2)+four(1)+four(1)+four(3)+four(1))
		refuses(t, "the last leaf of another mark", four(3)+four(0)+four(1)+four(2)+four(1)+four(mark)+four(3)+four(1))
	}
}

// P9.2: Read, of members that may not be, at each place.
func TestReadMembers(t *testing.T) {
	good := four(1) + four(2) + four(1)
	for _, c := range []struct {
		node, inc uint32
		ok        bool
	}{
		{0, 1, true}, {7, 1, true}, {0, 1<<31 - 1, true}, {7, 1<<31 - 1, true}, {2, 2, true},
		{8, 1, false}, {9, 1, false}, {1<<31 - 1, 1, false}, {1 << 31, 1, false}, {1<<32 - 1, 1, false},
		{0, 0, false}, {7, 0, false}, {1, 1 << 31, false}, {1, 1<<31 + 1, false}, {1, 1<<32 - 1, false},
	} {
		leaf := four(1) + four(c.node) + four(c.inc)
		for _, s := range []string{four(1) + leaf, four(3) + four(0) + leaf + good, four(3) + four(0) + good + leaf} {
			l := &lay.Left{S: s}
			if got := Read(l); l.Bad == c.ok || (len(got) != 0) != c.ok {
				t.Errorf("node %d's life %d: read as %v, Bad %v", c.node, c.inc, got, l.Bad)
			}
			reads(t, "a member", &lay.Left{S: s})
		}
	}
}

// P9.2: Read, of spots that are no tree that may be: nothing, and Bad, though
// all bytes are there.
func TestReadCrooked(t *testing.T) {
	for what, l := range crooked() {
		reads(t, what, &lay.Left{S: laid(l)})
		reads(t, what, &lay.Left{S: laid(l) + "more"})
	}
	for _, what := range []string{"an inner spot alone", "two leaves", "one half alone", "three halves", "two trees", "halves ahead of their spot", "one member twice", "one twice, in both halves", "65 leaves, evenly"} {
		l := &lay.Left{S: laid(crooked()[what])}
		if got := Read(l); len(got) != 0 || !l.Bad {
			t.Errorf("%s: read as %v, Bad %v", what, got, l.Bad)
		}
	}
}

// P9.2: from what is Bad already nothing is read, and nothing taken.
func TestReadOfBad(t *testing.T) {
	for _, p := range plants() {
		l := &lay.Left{S: laid(p.list()), Bad: true}
		if got := Read(l); len(got) != 0 || *l != (lay.Left{S: laid(p.list()), Bad: true}) {
			t.Errorf("Bad ahead of %v: %v, %q is left, Bad %v", p.list(), got, l.S, l.Bad)
		}
		staysBad(t, "Bad ahead", l)
	}
	staysBad(t, "Bad, and nothing left", &lay.Left{Bad: true})
}

// P9.1, P9.2: there and back; what may not be isn't read, unless its bytes are
// those of one that may be.
func TestThereAndBack(t *testing.T) {
	row := ""
	for _, p := range plants() {
		l := &lay.Left{S: Print(p.list())}
		if got := Read(l); !slices.Equal(got, p.list()) || !l.Done() {
			t.Errorf("%v, there and back: %v", p.list(), got)
		}
		row += Print(p.list())
	}
	l := &lay.Left{S: row}
	for _, p := range plants() {
		if got := Read(l); !slices.Equal(got, p.list()) {
			t.Errorf("%v, there and back in a row: %v", p.list(), got)
		}
	}
	if !l.Done() {
		t.Errorf("not done: %d bytes left, Bad %v", len(l.S), l.Bad)
	}
	for _, list := range lists() {
		l := &lay.Left{S: Print(list)}
		if got := Read(l); l.Bad != (len(got) == 0 && len(list) != 0) || !l.Bad && Print(got) != Print(list) {
			t.Errorf("%v, there and back: %v, Bad %v", list, got, l.Bad)
		}
	}
}

// P9.3: one inner spot fewer than leaves, in whatever is a tree: as it is
// joined, halved and read.
func TestOneFewer(t *testing.T) {
	fewer := func(what string, l []api.Spot) {
		t.Helper()
		if leaves := len(Leaves(l)); Right(l) && len(l) != 0 && len(l)-leaves != leaves-1 {
			t.Errorf("%s: %d spots, %d leaves", what, len(l), leaves)
		}
	}
	for _, l := range lists() {
		fewer("as it is", l)
		fewer("read", Read(&lay.Left{S: Print(l)}))
		a, b, _ := Halves(l)
		fewer("the left half", a)
		fewer("the right half", b)
		for i := range l {
			if end := End(l, i); end != -1 && len(Leaves(l[i:end])) != (end-i+1)/2 {
				t.Errorf("the part from %d to %d of %v", i, end, l)
			}
		}
	}
	l := Leaf(nth(0))
	for n := 1; n < 64; n++ {
		if n%2 == 0 {
			l = Join(l, Leaf(nth(n)))
		} else {
			l = Join(Leaf(nth(n)), l)
		}
		fewer("joined", l)
		if len(l) != 2*n+1 || !Right(l) {
			t.Fatalf("%d members joined: %d spots", n+1, len(l))
		}
	}
}

// roomy is l with spare room behind it, and the whole of both.
func roomy(l []api.Spot) ([]api.Spot, []api.Spot) {
	all := append(slices.Clone(l), at(90), inner(), at(91), at(92))
	return all[:len(l)], all
}

// Rule 3: what is handed in is as it was, its spare room too, and no answer
// shares memory with it, or with another.
func TestNothingChanges(t *testing.T) {
	spoil := func(lists ...[]api.Spot) {
		for _, l := range lists {
			l = l[:cap(l)]
			for i := range l {
				l[i] = api.Spot{Leaf: true, Who: life(-9, -9)}
			}
		}
	}
	for _, given := range lists() {
		l, all := roomy(given)
		more, moreAll := roomy([]api.Spot{inner(), at(80), at(81)})
		was, moreWas := slices.Clone(all), slices.Clone(moreAll)
		End(l, 0)
		Right(l)
		Height(l)
		Print(l)
		if who := Leaves(l); len(who) != 0 {
			who = who[:cap(who)]
			clear(who)
		}
		spoil(Join(l, more), Join(more, l), Join(l, nil), Join(nil, l))
		a, b, ok := Halves(l)
		left := slices.Clone(a)
		spoil(b)
		if ok && !slices.Equal(a, left) {
			t.Errorf("%v: its halves share memory", given)
		}
		spoil(a)
		if !slices.Equal(all, was) || !slices.Equal(moreAll, moreWas) {
			t.Errorf("%v: is changed, or shared", given)
		}
	}
	first := Leaf(nth(1))
	spoil(first)
	if !slices.Equal(Leaf(nth(1)), []api.Spot{at(1)}) {
		t.Error("a leaf is kept from call to call")
	}
}

// P1: no Left at all is none to read from, and no call panics at it.
func TestNoLeft(t *testing.T) {
	if l := Read(nil); len(l) != 0 {
		t.Errorf("a tree of no Left: %v", l)
	}
}

// Rules 4 and 6: the same arguments come to the same, in whatever goroutine.
func TestManyAtOnce(t *testing.T) {
	l := grow(0, 64, unlike).list()
	s := laid(l)
	var workers sync.WaitGroup
	for range 8 {
		workers.Go(func() {
			for range 50 {
				left := &lay.Left{S: s}
				got := Read(left)
				a, b, ok := Halves(l)
				if !slices.Equal(got, l) || !left.Done() || !ok || !slices.Equal(Join(a, b), l) || Print(l) != s || !Right(l) || End(l, 0) != 127 || len(Leaves(l)) != 64 || Height(l) != Height(got) {
					t.Error("at once: not the same")
				}
			}
		})
	}
	workers.Wait()
}

// listOf makes a list of any kind out of bytes, three a spot.
func listOf(s string) []api.Spot {
	var l []api.Spot
	for ; len(s) >= 3; s = s[3:] {
		spot := api.Spot{Leaf: s[0]%2 == 1}
		if spot.Leaf || s[0]%64 == 2 {
			spot.Who = life(int(int8(s[1]))%16, int(int8(s[2])))
		}
		l = append(l, spot)
	}
	return l
}

// P1: no call panics, at any arguments; each answer is right at all of them.
func FuzzAll(f *testing.F) {
	for _, p := range plants() {
		raw := ""
		for _, spot := range p.list() {
			if spot.Leaf {
				raw += string([]byte{1, byte(spot.Who.Node), byte(spot.Who.Inc)})
			} else {
				raw += "\x00\x00\x00"
			}
		}
		f.Add(raw, 1, laid(p.list()), false)
	}
	for _, place := range []int{0, -1, 3, math.MinInt, math.MaxInt} {
		f.Add("\x00\x00\x00\x01\x01\x01\x01\x01\x01", place, four(2)+four(1), place%2 == 0)
		f.Add("\x02\x01\x01\x01\x02\x03", place, four(128)+four(2), place%2 == 0)
	}
	f.Fuzz(func(t *testing.T, raw string, place int, s string, bad bool) {
		l := listOf(raw)
		was := slices.Clone(l)
		if got := End(l, place); got != endOf(l, place) {
			t.Errorf("End: %d", got)
		}
		for i := range l {
			if got := End(l, i); got != endOf(l, i) {
				t.Errorf("End at %d: %d", i, got)
			}
		}
		if got := Right(l); got != mayBe(l) {
			t.Errorf("Right: %v", got)
		}
		if got := Print(l); got != laid(l) {
			t.Errorf("Print: %q", got)
		}
		a, b, ok := Halves(l)
		if ok && (!slices.Equal(append(slices.Clone(a), b...), l[1:]) || whole(a) != len(a) || whole(b) != len(b)) {
			t.Errorf("Halves: %v, %v", a, b)
		}
		if Right(l) && (ok != (len(l) > 1) || Height(l) != max(Height(a), Height(b))+min(len(l), 1)) {
			t.Errorf("Halves are %v, %v, %v, Height is %d", a, b, ok, Height(l))
		}
		reads(t, "bytes", &lay.Left{S: s, Bad: bad})
		reads(t, "a list's bytes, and more", &lay.Left{S: laid(l) + s})
		if !slices.Equal(l, was) || Height(l) > len(l) || len(Leaves(l)) > len(l) {
			t.Error("the list is changed, or has too many leaves")
		}
	})
}
