package plan

import (
	"fmt"
	"math"
	"math/bits"
	"math/rand"
	"slices"
	"strings"
	"sync"
	"testing"

	"lodge/api"
	"lodge/tree"
)

// plant is a tree with halves of its own, to hold the lists against: a leaf
// has none.
type plant struct {
	who         api.Member
	left, right *plant
}

func life(node, inc int) api.Member { return api.Member{Node: node, Inc: inc} }

// nth is the member of the number n: no two numbers have the same, and a lower
// number below 64 is ahead.
func nth(n int) api.Member { return life(n/8%8, 1+n%8+n/64*8) }

// among are the members of these numbers.
func among(numbers ...int) []api.Member {
	var who []api.Member
	for _, n := range numbers {
		who = append(who, nth(n))
	}
	return who
}

func inner() api.Spot { return api.Spot{} }

func leaf(n int) api.Spot { return api.Spot{Leaf: true, Who: nth(n)} }

// one and two are plants of a number's member, and of two halves.
func one(n int) *plant       { return &plant{who: nth(n)} }
func two(a, b *plant) *plant { return &plant{left: a, right: b} }

// list are a plant's spots, in layer 9's order.
func (p *plant) list() []api.Spot { return p.behind(nil) }

// behind lays a plant's spots behind l.
func (p *plant) behind(l []api.Spot) []api.Spot {
	if p == nil {
		return l
	}
	if p.left == nil {
		return append(l, api.Spot{Leaf: true, Who: p.who})
	}
	return p.right.behind(p.left.behind(append(l, inner())))
}

// leaves are a plant's members, in order.
func (p *plant) leaves() []api.Member {
	if p == nil {
		return nil
	}
	if p.left == nil {
		return []api.Member{p.who}
	}
	return append(p.left.leaves(), p.right.leaves()...)
}

// high is how deep a plant's deepest leaf lies.
func (p *plant) high() int {
	if p == nil {
		return -1
	}
	if p.left == nil {
		return 0
	}
	return 1 + max(p.left.high(), p.right.high())
}

// without is the plant without all leaves that don't stay.
func (p *plant) without(stays func(api.Member) bool) *plant {
	if p == nil {
		return nil
	}
	if p.left == nil {
		if stays(p.who) {
			return p
		}
		return nil
	}
	left, right := p.left.without(stays), p.right.without(stays)
	if left == nil {
		return right
	}
	if right == nil {
		return left
	}
	return two(left, right)
}

// only is the plant without all leaves that aren't among keep.
func (p *plant) only(keep []api.Member) *plant {
	return p.without(func(who api.Member) bool { return slices.Contains(keep, who) })
}

// paths are the ways from the root to all of a plant's places: 0 for each left
// half, 1 for each right one.
func (p *plant) paths() []string {
	if p == nil {
		return nil
	}
	all := []string{""}
	if p.left == nil {
		return all
	}
	for _, path := range p.left.paths() {
		all = append(all, "0"+path)
	}
	for _, path := range p.right.paths() {
		all = append(all, "1"+path)
	}
	return all
}

// put is the plant with a spot at the end of a way, whose left half is what was
// there, and its right one more.
func (p *plant) put(path string, more *plant) *plant {
	if path == "" {
		return two(p, more)
	}
	if path[0] == '0' {
		return two(p.left.put(path[1:], more), p.right)
	}
	return two(p.left, p.right.put(path[1:], more))
}

// graft is the plant with more put where it leaves the whole no higher, by
// trying each place.
func (p *plant) graft(more *plant) *plant {
	if p == nil {
		return more
	}
	found := slices.DeleteFunc(p.paths(), func(path string) bool { return p.put(path, more).high() > p.high() })
	slices.SortFunc(found, func(a, b string) int {
		if len(a) != len(b) {
			return len(a) - len(b)
		}
		return strings.Compare(b, a)
	})
	return p.put(append(found, "")[0], more)
}

// compare tells which of two members is ahead, as a library would sort them.
func compare(a, b api.Member) int {
	if a.Node != b.Node {
		return a.Node - b.Node
	}
	return a.Inc - b.Inc
}

// merge is one plant of many.
func merge(all []*plant) *plant {
	var whole *plant
	all = slices.DeleteFunc(slices.Clone(all), func(p *plant) bool { return p == nil })
	slices.SortFunc(all, func(a, b *plant) int {
		x, y := a.leaves(), b.leaves()
		if len(x) != len(y) {
			return len(y) - len(x)
		}
		return compare(slices.MinFunc(x, compare), slices.MinFunc(y, compare))
	})
	for _, p := range all {
		whole = whole.graft(p)
	}
	return whole
}

// planted is the plant of a list that may be a tree.
func planted(l []api.Spot) *plant {
	if len(l) == 0 {
		return nil
	}
	if l[0].Leaf {
		return &plant{who: l[0].Who}
	}
	a, b, _ := tree.Halves(l)
	return two(planted(a), planted(b))
}

// grow is a plant of these members: cut says how many of as many go to the left.
func grow(numbers []int, cut func(count int) int) *plant {
	if len(numbers) == 0 {
		return nil
	}
	if len(numbers) == 1 {
		return one(numbers[0])
	}
	middle := cut(len(numbers))
	return two(grow(numbers[:middle], cut), grow(numbers[middle:], cut))
}

func toLeft(count int) int  { return count - 1 }
func toRight(int) int       { return 1 }
func even(count int) int    { return count / 2 }
func unlike(count int) int  { return 1 + (count-1)/3 }
func byTurns(count int) int { return 1 + (count%2)*(count-2) }

// upTo are the numbers from first up to below end.
func upTo(first, end int) []int {
	var numbers []int
	for n := first; n < end; n++ {
		numbers = append(numbers, n)
	}
	return numbers
}

// shapes are all trees of these members, in this order.
func shapes(numbers []int) []*plant {
	if len(numbers) == 1 {
		return []*plant{one(numbers[0])}
	}
	var all []*plant
	for middle := 1; middle < len(numbers); middle++ {
		for _, left := range shapes(numbers[:middle]) {
			for _, right := range shapes(numbers[middle:]) {
				all = append(all, two(left, right))
			}
		}
	}
	return all
}

// orders are all orders of as many.
func orders(count int) [][]int {
	if count == 0 {
		return [][]int{nil}
	}
	var all [][]int
	for _, some := range orders(count - 1) {
		for place := range count {
			all = append(all, slices.Insert(slices.Clone(some), place, count-1))
		}
	}
	return all
}

// told are those of l in that order.
func told(l []api.Flush, order []int) []api.Flush {
	var turned []api.Flush
	for _, i := range order {
		turned = append(turned, l[i])
	}
	return turned
}

// key is the id of a key of the number n, which isn't none: keys of numbers near
// one another have ids that are unlike in one of their numbers alone.
func key(n int) api.ViewId { return api.ViewId{Counter: 1 + n/4, Node: n % 2, Inc: 1 + n/2%2} }

// bare and of are what a number's member tells that has no last key, and that has
// the one of a number, of a tree. That it was in another view shows nowhere.
func bare(n int) api.Flush { return api.Flush{Who: nth(n), Old: key(n)} }
func of(n, id int, p *plant) api.Flush {
	return api.Flush{Who: nth(n), Last: api.Last{Id: key(id), Tree: p.list()}}
}

// wants is what is told, by one that wants a new secret.
func wants(f api.Flush) api.Flush {
	f.Want = true
	return f
}

// all are what these members tell that have one last key.
func all(id int, p *plant, numbers ...int) []api.Flush {
	var l []api.Flush
	for _, n := range numbers {
		l = append(l, of(n, id, p))
	}
	return l
}

// news are what these members tell that have none.
func news(numbers ...int) []api.Flush {
	var l []api.Flush
	for _, n := range numbers {
		l = append(l, bare(n))
	}
	return l
}

// shape is the chapter's shape by the plants: each one that tells looks for who
// tells its key too, and stands in that one's tree or alone.
func shape(l []api.Flush) *plant {
	var parts []*plant
	for i, f := range l {
		first, with := -1, []api.Member{}
		for j, other := range l {
			if other.Last.Id == f.Last.Id {
				with = append(with, other.Who)
				if first < 0 {
					first = j
				}
			}
		}
		if f.Last.Id == (api.ViewId{}) {
			parts = append(parts, &plant{who: f.Who})
			continue
		}
		left := planted(l[first].Last.Tree).only(with)
		if first == i {
			parts = append(parts, left)
		}
		if !slices.Contains(left.leaves(), f.Who) {
			parts = append(parts, &plant{who: f.Who})
		}
	}
	return merge(parts)
}

// fresh are who draws anew, of the members at a shape's leaves.
func fresh(l []api.Flush, leaves []api.Member) []api.Member {
	var who []api.Member
	for i, m := range leaves {
		draws := i+1 == len(leaves)
		for _, f := range l {
			draws = draws || f.Who == m && (f.Want || f.Last.Id == api.ViewId{})
		}
		if draws {
			who = append(who, m)
		}
	}
	return who
}

// members are all who tell, in order: each one is put where it belongs.
func members(l []api.Flush) []api.Member {
	var who []api.Member
	for _, f := range l {
		at := 0
		for at < len(who) && compare(who[at], f.Who) < 0 {
			at++
		}
		if at == len(who) || who[at] != f.Who {
			who = slices.Insert(who, at, f.Who)
		}
	}
	return who
}

// short is a tree as a text, with members by their numbers.
func short(l []api.Spot) string {
	if len(l) == 0 {
		return "nothing"
	}
	var text func(p *plant) string
	text = func(p *plant) string {
		if p.left == nil {
			return fmt.Sprint(8*p.who.Node + (p.who.Inc-1)%8 + (p.who.Inc-1)/8*64)
		}
		return "(" + text(p.left) + " " + text(p.right) + ")"
	}
	if tree.End(l, 0) != len(l) {
		return fmt.Sprint(l)
	}
	return text(planted(l))
}

func checkShape(t *testing.T, what string, got []api.Spot, want *plant) {
	t.Helper()
	if !slices.Equal(got, want.list()) {
		t.Errorf("%s: %s, want %s", what, short(got), short(want.list()))
	}
}

func checkWho(t *testing.T, what string, got, want []api.Member) {
	t.Helper()
	if !slices.Equal(got, want) {
		t.Errorf("%s: %v, want %v", what, got, want)
	}
}

// crooked are lists that may be no trees.
func crooked() map[string][]api.Spot {
	return map[string][]api.Spot{
		"an inner spot alone":         {inner()},
		"inner spots alone":           make([]api.Spot, 1<<16),
		"two leaves":                  {leaf(0), leaf(1)},
		"leaves alone":                slices.Repeat([]api.Spot{leaf(0), leaf(1)}, 1<<15),
		"a leaf, then an inner spot":  {leaf(0), inner()},
		"one half alone":              {inner(), leaf(0)},
		"halves ahead of their spot":  {leaf(0), leaf(1), inner()},
		"three halves":                {inner(), leaf(0), leaf(1), leaf(2)},
		"two trees":                   {inner(), leaf(0), leaf(1), inner(), leaf(2), leaf(3)},
		"the right half not ended":    {inner(), leaf(0), inner(), leaf(1)},
		"the left half not ended":     {inner(), inner(), leaf(0), leaf(1)},
		"nothing in the right half":   {inner(), inner(), leaf(0), leaf(1), inner()},
		"somebody's inner spot":       {{Who: nth(1)}, leaf(0), leaf(1)},
		"one member twice":            {inner(), leaf(1), leaf(1)},
		"one twice, in both halves":   {inner(), inner(), leaf(0), leaf(1), inner(), leaf(2), leaf(0)},
		"nobody's leaf":               {{Leaf: true}},
		"nobody's leaf, to the right": {inner(), leaf(0), {Leaf: true}},
		"who may not be":              {inner(), {Leaf: true, Who: life(-1, math.MinInt)}, {Leaf: true, Who: life(math.MaxInt, 0)}},
		"65 leaves":                   grow(upTo(0, 65), even).list(),
		"65 leaves, too high":         grow(upTo(0, 65), toLeft).list(),
		"as high as is promised":      grow(upTo(0, 1<<15), toLeft).list(),
		"as high, to the right":       grow(upTo(0, 1<<15), toRight).list(),
	}
}

// P15.1: the chapter's example, and who draws anew there.
func TestExample(t *testing.T) {
	three := two(one(0), two(one(1), one(2)))
	l := []api.Flush{of(0, 0, three), of(2, 0, three), bare(3)}
	want := tree.Join(tree.Join(tree.Leaf(nth(0)), tree.Leaf(nth(2))), tree.Leaf(nth(3)))
	if got := Shape(l); !slices.Equal(got, want) {
		t.Errorf("the shape: %v", got)
	}
	checkWho(t, "fresh", Fresh(l, want), among(3))
	checkWho(t, "members", Members(l), among(0, 2, 3))
}

// P15.1: nobody tells anything.
func TestNobody(t *testing.T) {
	for _, l := range [][]api.Flush{nil, {}} {
		for _, none := range [][]api.Spot{nil, {}} {
			checkShape(t, "nobody's shape", Shape(l), nil)
			checkWho(t, "nobody draws", Fresh(l, none), nil)
			checkWho(t, "nobody", Members(l), nil)
		}
	}
	checkWho(t, "nowhere", Fresh(news(0, 1), nil), nil)
}

// P15.1: one alone, with whatever last key: its tree is itself, and it draws.
func TestOne(t *testing.T) {
	for what, f := range map[string]api.Flush{
		"none":                  bare(5),
		"none, and wants":       wants(bare(5)),
		"of it alone":           of(5, 0, one(5)),
		"of two":                of(5, 0, two(one(5), one(6))),
		"of two, to the right":  of(5, 0, two(one(1), one(5))),
		"of many":               of(5, 3, grow(upTo(0, 64), unlike)),
		"of many, and wants":    wants(of(5, 3, grow(upTo(0, 64), unlike))),
		"as high as may be":     of(5, 3, grow(upTo(0, 64), toLeft)),
		"as high, to the right": of(5, 3, grow(upTo(0, 64), toRight)),
	} {
		checkShape(t, what, Shape([]api.Flush{f}), one(5))
		checkWho(t, what, Fresh([]api.Flush{f}, []api.Spot{leaf(5)}), among(5))
		checkWho(t, what, Members([]api.Flush{f}), among(5))
	}
	for _, m := range []api.Member{life(0, 1), life(7, 1), life(0, 1<<31-1), life(7, 1<<31-1)} {
		checkShape(t, "one at the ends", Shape([]api.Flush{{Who: m}}), &plant{who: m})
	}
}

// P15.1: several without any last key come one by one, in layer 8's order, in
// whatever order they are told: all of them draw.
func TestOneByOne(t *testing.T) {
	pair := func(n int) *plant { return two(one(n), one(n+1)) }
	for _, want := range []*plant{
		pair(0),
		two(pair(0), one(2)),
		two(pair(0), pair(2)),
		two(two(pair(0), pair(2)), one(4)),
		two(two(pair(0), pair(2)), pair(4)),
	} {
		count := len(want.leaves())
		for _, order := range orders(count) {
			l := news(order...)
			checkShape(t, fmt.Sprint("told as ", order), Shape(l), want)
			checkWho(t, fmt.Sprint("told as ", order), Fresh(l, Shape(l)), want.leaves())
			checkWho(t, fmt.Sprint("told as ", order), Members(l), want.leaves())
		}
	}
	r := rand.New(rand.NewSource(15))
	for count := 1; count <= api.MaxList; count++ {
		l := Shape(news(r.Perm(count)...))
		checkShape(t, fmt.Sprint(count, " come"), l, shape(news(upTo(0, count)...)))
		if !tree.Right(l) || tree.Height(l) != bits.Len(uint(count-1)) {
			t.Errorf("%d come: %s, %d high", count, short(l), tree.Height(l))
		}
	}
}

// P15.1: a node's lives, and nodes' ends, are in layer 8's order too.
func TestOneByOneOfNodes(t *testing.T) {
	who := []api.Member{life(1, 9), life(1, 1<<31-1), life(2, 1), life(2, 10), life(7, 2)}
	tip := func(i int) *plant { return &plant{who: who[i]} }
	want := two(two(two(tip(0), tip(1)), two(tip(2), tip(3))), tip(4))
	for _, order := range orders(len(who)) {
		var l []api.Flush
		for _, i := range order {
			l = append(l, api.Flush{Who: who[i]})
		}
		checkShape(t, fmt.Sprint("told as ", order), Shape(l), want)
		checkWho(t, fmt.Sprint("told as ", order), Members(l), who)
	}
}

// P15.1: some that had one key together, and all are there: its tree stays as
// it was, however they are told, and the last one of it alone draws.
func TestAllThere(t *testing.T) {
	for _, numbers := range [][]int{{0}, {0, 1}, {1, 0}, {2, 0, 1}, {3, 1, 0, 2}, {4, 0, 3, 1, 2}} {
		for _, p := range shapes(numbers) {
			for _, order := range orders(len(numbers)) {
				l := told(all(2, p, numbers...), order)
				checkShape(t, fmt.Sprint("told as ", order), Shape(l), p)
				checkWho(t, fmt.Sprint("told as ", order), Fresh(l, Shape(l)), among(numbers[len(numbers)-1]))
				checkWho(t, fmt.Sprint("told as ", order), Members(l), among(upTo(0, len(numbers))...))
			}
		}
	}
	for _, cut := range []func(int) int{toLeft, toRight, even, unlike, byTurns} {
		for _, count := range []int{21, 61, 63, 64} {
			p := grow(upTo(0, count), cut)
			checkShape(t, fmt.Sprint(count, " there"), Shape(all(0, p, upTo(0, count)...)), p)
		}
	}
}

// P15.1: one or more are gone of those that had one key together: what is left
// of its tree stays.
func TestSomeGone(t *testing.T) {
	three := two(one(0), two(one(1), one(2)))
	four := two(two(one(3), one(1)), two(one(0), one(2)))
	for _, c := range []struct {
		what  string
		p     *plant
		stays []int
		want  *plant
	}{
		{"the first one", three, []int{1, 2}, two(one(1), one(2))},
		{"the middle one", three, []int{2, 0}, two(one(0), one(2))},
		{"the last one", three, []int{0, 1}, two(one(0), one(1))},
		{"all but one", three, []int{1}, one(1)},
		{"a left half's left", four, []int{0, 1, 2}, two(one(1), two(one(0), one(2)))},
		{"a left half's right", four, []int{0, 2, 3}, two(one(3), two(one(0), one(2)))},
		{"a right half's left", four, []int{3, 2, 1}, two(two(one(3), one(1)), one(2))},
		{"a right half's right", four, []int{3, 0, 1}, two(two(one(3), one(1)), one(0))},
		{"one of each half", four, []int{0, 1}, two(one(1), one(0))},
		{"a whole half", four, []int{1, 3}, two(one(3), one(1))},
	} {
		for _, order := range orders(len(c.stays)) {
			checkShape(t, c.what, Shape(told(all(7, c.p, c.stays...), order)), c.want)
		}
	}
	for _, numbers := range [][]int{{1, 0}, {2, 0, 1}, {3, 1, 0, 2}, {4, 0, 3, 1, 2}, upTo(0, 6)} {
		for _, p := range shapes(numbers) {
			for chosen := range 1 << len(numbers) {
				stays := slices.DeleteFunc(upTo(0, len(numbers)), func(n int) bool { return chosen>>n&1 == 0 })
				l := all(1, p, stays...)
				checkShape(t, fmt.Sprint(stays, " stay"), Shape(l), p.only(among(stays...)))
			}
		}
	}
}

// P15.1: those of two and more keys come together: the one of more members
// first, of as many the one of the first member; leaves come last.
func TestKeysMeet(t *testing.T) {
	left, right := two(one(0), two(one(1), one(2))), two(two(one(3), one(4)), one(5))
	for _, c := range []struct {
		what string
		l    []api.Flush
		want *plant
	}{
		{"two of three", slices.Concat(all(0, left, 0, 1, 2), all(1, right, 3, 4, 5)), two(left, right)},
		{"the more members, the later ones", slices.Concat(all(0, left, 0, 2), all(1, right, 3, 4, 5)), two(right, two(one(0), one(2)))},
		{"as many of each are left", slices.Concat(all(0, left, 1, 2), all(1, right, 3, 5)), two(two(one(1), one(2)), two(one(3), one(5)))},
		{"one of each", slices.Concat(all(0, left, 2), all(1, right, 4)), two(one(2), one(4))},
		{"one of each, and a new one ahead", slices.Concat(all(0, left, 2), all(1, right, 4), news(1)), two(two(one(1), one(2)), one(4))},
		{"one of a key, and two of another", slices.Concat(all(0, left, 1), all(1, right, 3, 5)), two(two(one(3), one(5)), one(1))},
		{"one who is gone from one key's tree is in another one's", slices.Concat(all(0, left, 0, 2), all(1, two(one(1), one(4)), 1, 4)),
			two(two(one(0), one(2)), two(one(1), one(4)))},
		{"who told one key is in the other one's tree too", slices.Concat(all(0, left, 0), all(1, left, 1, 2)), two(two(one(1), one(2)), one(0))},
		{"the same tree, and each has a key of its own", slices.Concat(all(0, left, 0), all(1, left, 1), all(2, left, 2)), two(two(one(0), one(1)), one(2))},
		{"three keys", slices.Concat(all(0, two(one(4), one(5)), 4, 5), all(1, two(one(0), one(3)), 0, 3), all(2, two(one(1), one(2)), 1, 2)),
			two(two(two(one(0), one(3)), two(one(1), one(2))), two(one(4), one(5)))},
		{"three keys, and a new one", slices.Concat(all(0, grow(upTo(0, 4), even), 0, 1, 2), all(1, two(one(4), one(5)), 4, 5), all(4, one(6), 6), news(3)),
			two(two(two(one(0), one(1)), one(2)), two(two(one(4), one(5)), two(one(3), one(6))))},
	} {
		r := rand.New(rand.NewSource(2))
		for range 20 {
			checkShape(t, c.what, Shape(c.l), c.want)
			r.Shuffle(len(c.l), func(i, j int) { c.l[i], c.l[j] = c.l[j], c.l[i] })
		}
	}
}

// P15.1: ids are the same in all three numbers, or are two keys'.
func TestKeysApart(t *testing.T) {
	three := two(one(0), two(one(1), one(2)))
	ids := []api.ViewId{{Counter: 1, Inc: 1}, {Counter: 2, Inc: 1}, {Counter: 1, Node: 1, Inc: 1}, {Counter: 1, Inc: 2}, {Counter: 1<<31 - 1, Node: 7, Inc: 1<<31 - 1},
		{Counter: 1}, {Node: 1}, {Inc: 1}, {Counter: -1}, {Counter: math.MinInt, Node: math.MaxInt, Inc: math.MinInt}}
	for i, a := range ids {
		for j, b := range ids {
			l := all(0, three, 0, 1, 2)
			l[0].Last.Id, l[1].Last.Id, l[2].Last.Id = a, b, a
			want := three
			if i != j {
				want = two(two(one(0), one(2)), one(1))
			}
			checkShape(t, fmt.Sprint(a, " and ", b), Shape(l), want)
			checkWho(t, fmt.Sprint(a, " and ", b), Fresh(l, three.list()), among(2))
		}
	}
}

// P15.1: one comes to those of a key: it stands where it makes the tree no
// higher; it draws, and the last one.
func TestOneComes(t *testing.T) {
	for _, c := range []struct {
		what  string
		p     *plant
		comes int
		want  *plant
		draw  []int
	}{
		{"to one", one(0), 1, two(one(0), one(1)), []int{1}},
		{"to a later one", one(1), 0, two(one(0), one(1)), []int{0, 1}},
		{"to two", two(one(1), one(2)), 0, two(two(one(1), one(2)), one(0)), []int{0}},
		{"to three, to the left", two(two(one(3), one(1)), one(2)), 0, two(two(one(3), one(1)), two(one(2), one(0))), []int{0}},
		{"to three, to the right", two(one(3), two(one(1), one(2))), 0, two(two(one(3), one(0)), two(one(1), one(2))), []int{0, 2}},
		{"to four", two(two(one(0), one(1)), two(one(2), one(3))), 4, two(two(two(one(0), one(1)), two(one(2), one(3))), one(4)), []int{4}},
		{"to four to the right", grow(upTo(1, 5), toRight), 0, two(two(one(1), one(0)), grow(upTo(2, 5), toRight)), []int{0, 4}},
	} {
		who := slices.Concat([]api.Flush{bare(c.comes)}, nil)
		for _, m := range c.p.leaves() {
			who = append(who, api.Flush{Who: m, Last: api.Last{Id: key(6), Tree: c.p.list()}})
		}
		for _, order := range orders(len(who)) {
			l := told(who, order)
			checkShape(t, c.what, Shape(l), c.want)
			checkWho(t, c.what, Fresh(l, Shape(l)), among(c.draw...))
		}
	}
}

// P15.1: where those of one key tell trees that are unlike, the first one's
// counts, first in the order in which they are told; who isn't in it is a leaf.
func TestFirstOnesTree(t *testing.T) {
	with := func(n int, p *plant) api.Flush { return of(n, 5, p) }
	left, right := two(two(one(0), one(1)), one(2)), two(one(2), two(one(1), one(0)))
	low, high := two(one(0), one(1)), two(one(1), one(2))
	for _, c := range []struct {
		what string
		l    []api.Flush
		want *plant
	}{
		{"the left one first", []api.Flush{with(0, left), with(1, right), with(2, right)}, left},
		{"the right one first", []api.Flush{with(0, right), with(1, left), with(2, left)}, right},
		{"the last member first", []api.Flush{with(2, right), with(1, left), with(0, left)}, right},
		{"the middle member first", []api.Flush{with(1, left), with(2, right), with(0, right)}, left},
		{"another key's one ahead", []api.Flush{of(3, 6, two(one(3), one(0))), with(2, right), with(1, left), with(0, left)}, two(two(one(2), one(3)), two(one(1), one(0)))},
		{"one without a key ahead", []api.Flush{bare(3), with(2, right), with(1, left), with(0, left)}, two(two(one(2), one(3)), two(one(1), one(0)))},
		{"one isn't in the first one's", []api.Flush{with(0, low), with(2, high), with(1, low)}, two(low, one(2))},
		{"one isn't in the first one's, the later", []api.Flush{with(2, high), with(0, low), with(1, low)}, two(high, one(0))},
		{"nobody else is in the first one's", []api.Flush{with(1, one(1)), with(0, left), with(2, right)}, two(two(one(0), one(1)), one(2))},
		{"the first one is gone from others' trees", []api.Flush{with(2, left), with(0, low), with(1, low)}, left},
	} {
		checkShape(t, c.what, Shape(c.l), c.want)
	}
	// Who stands as a leaf since the first one's tree lacks it has a last key.
	l := []api.Flush{with(0, two(one(0), one(2))), with(1, low), with(2, high)}
	checkShape(t, "one that lacks", Shape(l), two(two(one(0), one(2)), one(1)))
	checkWho(t, "draws as the last one", Fresh(l, Shape(l)), among(1))
	checkWho(t, "draws nothing elsewhere", Fresh(l, two(one(1), one(0)).list()), among(0))
}

// P15.1: who draws anew, written out: the last one, who wants to, and who has no
// last key; in the order of the leaves, each once, however they are told.
func TestFresh(t *testing.T) {
	p := two(two(one(3), one(1)), two(one(0), one(2)))
	own := func(n int) api.Flush { return of(n, 0, p) }
	for _, c := range []struct {
		what string
		l    []api.Flush
		want []int
	}{
		{"nobody wants", []api.Flush{own(0), own(1), own(2), own(3)}, []int{2}},
		{"the last one wants", []api.Flush{own(0), own(1), wants(own(2)), own(3)}, []int{2}},
		{"the last one has no key", []api.Flush{own(0), own(1), bare(2), own(3)}, []int{2}},
		{"the last one has none, and wants", []api.Flush{own(0), own(1), wants(bare(2)), own(3)}, []int{2}},
		{"the first one wants", []api.Flush{own(0), own(1), own(2), wants(own(3))}, []int{3, 2}},
		{"the first one has no key", []api.Flush{own(0), own(1), own(2), bare(3)}, []int{3, 2}},
		{"the first one has none, and wants", []api.Flush{own(0), own(1), own(2), wants(bare(3))}, []int{3, 2}},
		{"one in the middle wants", []api.Flush{wants(own(0)), own(1), own(2), own(3)}, []int{0, 2}},
		{"one in the middle has none", []api.Flush{own(0), bare(1), own(2), own(3)}, []int{1, 2}},
		{"two want", []api.Flush{wants(own(0)), own(1), own(2), wants(own(3))}, []int{3, 0, 2}},
		{"one wants, another one has none", []api.Flush{bare(0), wants(own(1)), own(2), own(3)}, []int{1, 0, 2}},
		{"all want", []api.Flush{wants(own(0)), wants(own(1)), wants(own(2)), wants(own(3))}, []int{3, 1, 0, 2}},
		{"all have none", news(0, 1, 2, 3), []int{3, 1, 0, 2}},
		{"all have none, and want", []api.Flush{wants(bare(0)), wants(bare(1)), wants(bare(2)), wants(bare(3))}, []int{3, 1, 0, 2}},
		{"of unlike keys", []api.Flush{of(0, 1, p), of(1, 2, p), of(2, 3, p), wants(of(3, 4, p))}, []int{3, 2}},
		{"more tell than stand there", []api.Flush{own(0), own(1), own(2), wants(own(3)), wants(of(4, 0, p)), bare(5)}, []int{3, 2}},
	} {
		for _, order := range orders(len(c.l))[:min(24, len(orders(len(c.l))))] {
			checkWho(t, c.what, Fresh(told(c.l, order), p.list()), among(c.want...))
		}
	}
}

// P15.1: who draws anew in a shape that is none of these members': its last one,
// and those of its members that tell so.
func TestFreshElsewhere(t *testing.T) {
	p := two(two(one(9), one(1)), two(one(0), one(8)))
	own := func(n int) api.Flush { return of(n, 0, two(one(0), one(1))) }
	for _, c := range []struct {
		what string
		l    []api.Flush
		want []int
	}{
		{"nobody tells", nil, []int{8}},
		{"others tell", []api.Flush{wants(own(2)), bare(3), wants(bare(4))}, []int{8}},
		{"some of them tell", []api.Flush{own(0), own(1)}, []int{8}},
		{"one of them wants", []api.Flush{own(0), wants(own(1))}, []int{1, 8}},
		{"one of them has none", []api.Flush{bare(0), own(1)}, []int{0, 8}},
		{"both of them, and others", []api.Flush{wants(own(0)), bare(1), bare(2), wants(own(3))}, []int{1, 0, 8}},
		{"another life of one of them", []api.Flush{{Who: life(nth(9).Node, nth(9).Inc+1)}, {Who: life(nth(9).Node, nth(9).Inc-1), Want: true}}, []int{8}},
		{"that life of another node", []api.Flush{{Who: life(nth(9).Node+1, nth(9).Inc)}, {Who: life(nth(9).Node+2, nth(9).Inc), Want: true}}, []int{8}},
	} {
		checkWho(t, c.what, Fresh(c.l, p.list()), among(c.want...))
	}
	checkWho(t, "a leaf of another one", Fresh(news(0), []api.Spot{leaf(1)}), among(1))
}

// P15.1: what is told else shows nowhere: the old view, and what was delivered.
func TestWhatElseIsTold(t *testing.T) {
	p := two(one(2), two(one(0), one(1)))
	l := []api.Flush{of(0, 0, p), wants(of(1, 0, p)), of(2, 0, p), bare(3)}
	for i := range l {
		l[i].Old = key(i % 3)
		l[i].Streams = []api.Stream{{From: nth(4 + i), Texts: []string{"p", "q"}}}
	}
	l[1].Old, l[1].Streams = api.ViewId{}, nil
	checkShape(t, "the shape", Shape(l), two(two(one(2), one(3)), two(one(0), one(1))))
	checkWho(t, "fresh", Fresh(l, Shape(l)), among(3, 1))
	checkWho(t, "members", Members(l), among(0, 1, 2, 3))
}

// P15.1: the members: in layer 8's order, each once, of whatever lists.
func TestMembers(t *testing.T) {
	who := []api.Member{life(0, 1), life(0, 2), life(0, 1<<31-1), life(1, 1), life(6, 300), life(7, 1)}
	for _, order := range orders(len(who)) {
		var l []api.Flush
		for _, i := range order {
			l = append(l, api.Flush{Who: who[i], Want: i%2 == 0, Last: api.Last{Id: key(i % 3), Tree: one(i).list()}})
		}
		checkWho(t, fmt.Sprint("told as ", order), Members(l), who)
		checkWho(t, fmt.Sprint("told twice, as ", order), Members(append(l, l...)), who)
	}
	odd := []api.Member{life(math.MinInt, math.MaxInt), life(-1, 5), life(-1, 6), {}, life(8, math.MinInt), life(8, 0), life(math.MaxInt, math.MinInt)}
	for _, order := range orders(len(odd))[:500] {
		var l []api.Flush
		for _, i := range order {
			l = append(l, api.Flush{Who: odd[i]}, api.Flush{Who: odd[i]})
		}
		checkWho(t, "who may not be", Members(l), odd)
	}
}

// drawn is what members up to below count tell, of some keys, at random: each
// key's tree has some of them, and maybe others, who are gone.
func drawn(r *rand.Rand, count int) []api.Flush {
	var l []api.Flush
	numbers := r.Perm(count)
	for id := 0; len(numbers) > 0; id++ {
		some := 1 + r.Intn(len(numbers))
		if r.Intn(3) == 0 {
			l = append(l, news(numbers[0])...)
			numbers = numbers[1:]
			continue
		}
		who := slices.Clone(numbers[:some])
		for n := range r.Intn(4) {
			who = append(who, 100+4*id+n)
		}
		if r.Intn(3) == 0 && count > some {
			who = append(who, numbers[some:]...)
		}
		r.Shuffle(len(who), func(i, j int) { who[i], who[j] = who[j], who[i] })
		p := grow(who, func(count int) int { return 1 + r.Intn(count-1) })
		l = append(l, all(id, p, numbers[:some]...)...)
		numbers = numbers[some:]
	}
	for i := range l {
		l[i].Want = r.Intn(5) == 0
	}
	r.Shuffle(len(l), func(i, j int) { l[i], l[j] = l[j], l[i] })
	return l
}

// P15.1: members of some keys, and of none, at random: as the plants have it.
func TestAgainstPlants(t *testing.T) {
	r := rand.New(rand.NewSource(151))
	for _, count := range []int{1, 2, 3, 4, 5, 6, 7, 8, 9, 13, 20, 40, 64} {
		for range 60 {
			l := drawn(r, count)
			got, want := Shape(l), shape(l)
			checkShape(t, fmt.Sprint(l), got, want)
			if !tree.Right(got) || len(tree.Leaves(got)) != count {
				t.Errorf("%v: %v may not be", l, got)
			}
			checkWho(t, fmt.Sprint(l), Fresh(l, got), fresh(l, want.leaves()))
			checkWho(t, fmt.Sprint(l), Fresh(l[:count/2], got), fresh(l[:count/2], want.leaves()))
			checkWho(t, fmt.Sprint(l), Members(l), members(l))
		}
	}
}

// P15.1: as long as those of a key tell one tree, it is the same shape in
// whatever order they are told.
func TestAnyOrder(t *testing.T) {
	r := rand.New(rand.NewSource(152))
	for _, count := range []int{2, 3, 5, 8, 21, 64} {
		for range 20 {
			l := drawn(r, count)
			want := shape(l)
			for range 5 {
				r.Shuffle(len(l), func(i, j int) { l[i], l[j] = l[j], l[i] })
				checkShape(t, "shuffled", Shape(l), want)
				checkWho(t, "shuffled", Fresh(l, want.list()), fresh(l, want.leaves()))
			}
		}
	}
}

// P15.2: those who had one key together keep what is left of its tree, of
// several keys at once, and as they go on from shape to shape.
func TestKeepTheTree(t *testing.T) {
	r := rand.New(rand.NewSource(153))
	for range 300 {
		l := drawn(r, 2+r.Intn(30))
		whole := planted(Shape(l))
		for _, f := range l {
			if f.Last.Id == (api.ViewId{}) {
				continue
			}
			var with []api.Member
			for _, other := range l {
				if other.Last.Id == f.Last.Id {
					with = append(with, other.Who)
				}
			}
			checkShape(t, fmt.Sprint("of the key ", f.Last.Id), whole.only(with).list(), planted(f.Last.Tree).only(with))
		}
	}
	var last []api.Spot
	for view := range 100 {
		l := news(200+2*view, 201+2*view)
		for _, m := range tree.Leaves(last) {
			if r.Intn(5) > 0 {
				l = append(l, api.Flush{Who: m, Last: api.Last{Id: key(view), Tree: last}})
			}
		}
		who := Members(l[2:])
		whole := Shape(l)
		checkShape(t, "from view to view", planted(whole).only(who).list(), planted(last).only(who))
		checkWho(t, "from view to view", members(l), Members(l))
		last = whole
	}
}

// P15.2: of two keys, each one's members keep what is left of their own tree,
// in every shape of both, whoever is gone.
func TestKeepBothTrees(t *testing.T) {
	for _, a := range shapes([]int{0, 2, 4}) {
		for _, b := range shapes([]int{5, 1, 3}) {
			for chosen := range 1 << 6 {
				var l []api.Flush
				for n := range 6 {
					if chosen>>n&1 == 1 {
						l = append(l, of(n, n%2, []*plant{a, b}[n%2]))
					}
				}
				whole := planted(Shape(l))
				who := whole.leaves()
				checkShape(t, "the one", whole.only(among(0, 2, 4)).list(), a.only(who))
				checkShape(t, "the other", whole.only(among(5, 1, 3)).list(), b.only(who))
				if len(who) != len(l) {
					t.Errorf("%v of %v", who, l)
				}
			}
		}
	}
}

// odd are lists of what is told that may not be.
func odd() map[string][]api.Flush {
	given := map[string][]api.Flush{
		"nobody":                        {{}},
		"nobody, twice":                 {{}, {}},
		"nobody's key":                  {{Last: api.Last{Id: key(0)}}},
		"a key of nothing":              {{Who: nth(0), Last: api.Last{Id: key(0)}}, {Who: nth(1), Last: api.Last{Id: key(0)}}},
		"a key of others":               {of(0, 0, two(one(1), one(2)))},
		"a tree, but no key":            {{Who: nth(0), Last: api.Last{Tree: two(one(0), one(1)).list()}}, {Who: nth(1), Last: api.Last{Tree: two(one(0), one(1)).list()}}},
		"one told twice, without a key": {bare(0), bare(0)},
		"one told twice, of a key":      {of(0, 0, two(one(0), one(1))), of(0, 0, two(one(0), one(1)))},
		"one told of two keys":          {of(0, 0, two(one(0), one(1))), of(0, 1, two(one(2), one(0))), of(1, 0, one(1)), of(2, 1, one(2))},
		"one told of a key and of none": {of(0, 0, two(one(0), one(1))), bare(0), bare(1)},
		"ids that may not be": {{Who: nth(0), Last: api.Last{Id: api.ViewId{Counter: -1}, Tree: one(0).list()}}, {Who: nth(1), Last: api.Last{Id: api.ViewId{Node: math.MinInt}, Tree: one(1).list()}},
			{Who: nth(2), Last: api.Last{Id: api.ViewId{Inc: math.MaxInt}, Tree: two(one(1), one(2)).list()}}},
		"who may not be":          {{Who: life(-1, math.MinInt)}, {Who: life(math.MaxInt, 0), Want: true}, {Who: life(8, -5), Last: api.Last{Id: key(0), Tree: []api.Spot{{Leaf: true, Who: life(8, -5)}}}}},
		"streams that may not be": {{Who: nth(0), Streams: []api.Stream{{}, {From: life(-1, -1), Texts: []string{"", strings.Repeat("x", 5000)}}}}},
		"a great many":            news(upTo(0, 600)...),
		"a great many of a key":   all(0, grow(upTo(0, 300), unlike), upTo(0, 600)...),
	}
	for what, l := range crooked() {
		given[what] = []api.Flush{
			{Who: nth(1), Last: api.Last{Id: key(0), Tree: l}},
			{Who: nth(0), Last: api.Last{Id: key(0)}},
			{Who: nth(2), Last: api.Last{Id: key(1), Tree: l}, Want: true},
			{Who: nth(3), Last: api.Last{Tree: l}},
			{Last: api.Last{Id: key(1), Tree: l}},
			{Who: life(-1, math.MinInt), Last: api.Last{Id: key(1), Tree: l}},
			{Who: life(math.MaxInt, 0), Last: api.Last{Id: key(1), Tree: l}},
		}
	}
	return given
}

// P1: lists and trees that may not be, and one member told twice: no call
// panics, each ends, and all who tell are members.
func TestOdd(t *testing.T) {
	for what, l := range odd() {
		checkWho(t, what, Members(l), members(l))
		whole := Shape(l)
		for _, m := range tree.Leaves(whole) {
			if !slices.Contains(members(l), m) {
				t.Errorf("%s: %v tells nothing", what, m)
			}
		}
		for _, m := range members(l) {
			if !slices.Contains(tree.Leaves(whole), m) {
				t.Errorf("%s: %v is in no tree", what, m)
			}
		}
		checkWho(t, what, Fresh(l, whole), fresh(l, tree.Leaves(whole)))
	}
	for what, spots := range crooked() {
		l := append(news(0), wants(of(1, 0, one(1))), of(2, 0, one(2)))
		checkWho(t, what, Fresh(l, spots), fresh(l, tree.Leaves(spots)))
		checkWho(t, what, Fresh(nil, spots), fresh(nil, tree.Leaves(spots)))
	}
}

// P15.1: what the words say of one member that is told twice: it is a member
// once, stands in the shape of a key's tree or as one leaf, and draws if one of
// what it tells says so.
func TestToldTwice(t *testing.T) {
	pair := two(one(0), one(1))
	for _, l := range [][]api.Flush{
		{bare(0), bare(0), bare(1)},
		{bare(1), bare(0), bare(1)},
		{of(0, 0, pair), bare(0), of(1, 0, pair)},
		{bare(1), of(0, 0, pair), of(1, 0, pair)},
		{of(0, 0, pair), wants(of(0, 0, pair)), of(1, 0, pair)},
		{of(0, 0, pair), of(1, 0, pair), wants(of(0, 0, pair))},
	} {
		checkShape(t, fmt.Sprint(l), Shape(l), pair)
		checkWho(t, fmt.Sprint(l), Members(l), among(0, 1))
		checkWho(t, fmt.Sprint(l), Fresh(l, pair.list()), fresh(l, among(0, 1)))
	}
	l := []api.Flush{of(0, 0, pair), wants(of(0, 0, pair)), of(1, 0, pair)}
	checkWho(t, "one wants, once", Fresh(l, pair.list()), among(0, 1))
}

// P15.1: what the words say of a tree that is told of no key: it is left out.
func TestTreeOfNoKey(t *testing.T) {
	l := all(0, two(one(2), two(one(0), one(1))), 0, 1, 2)
	for i := range l {
		l[i].Last.Id = api.ViewId{}
	}
	checkShape(t, "of no key", Shape(l), two(two(one(0), one(1)), one(2)))
	checkWho(t, "of no key", Fresh(l, Shape(l)), among(0, 1, 2))
}

// P1: as many as one would wait for, and as high as is promised: the calls end
// soon.
func TestGreat(t *testing.T) {
	const many = 1 << 13
	for _, cut := range []func(int) int{toLeft, toRight, even, unlike} {
		p := grow(upTo(0, many), cut)
		spots := p.list()
		l := make([]api.Flush, many)
		for n := range l {
			l[n] = api.Flush{Who: nth(n), Last: api.Last{Id: key(0), Tree: spots}, Want: n%2 == 0}
		}
		if got := Fresh(l, spots); len(got) != many/2+1 || got[0] != nth(0) || got[many/2] != nth(many-1) {
			t.Errorf("many: %d draw", len(got))
		}
		if got := Shape(l); !slices.Equal(got, spots) {
			t.Errorf("many: %d spots, want %d", len(got), len(spots))
		}
		if got := Members(l); len(got) != many || got[0] != life(0, 1) {
			t.Errorf("many: %d members", len(got))
		}
	}
}

// given are lists that may be, and that may not be.
func given() map[string][]api.Flush {
	lists := odd()
	r := rand.New(rand.NewSource(3))
	for count := range 20 {
		lists[fmt.Sprint("drawn ", count)] = drawn(r, count)
	}
	return lists
}

// Rule 3: what is handed in is as it was, its spare room too, and no answer
// shares memory with it, or with another.
func TestNothingChanges(t *testing.T) {
	for what, l := range given() {
		var rooms, were [][]api.Spot
		room := append(slices.Clone(l), bare(90), wants(of(91, 3, two(one(90), one(91)))), bare(92))
		for i, f := range room {
			spots := slices.Concat(f.Last.Tree, []api.Spot{leaf(93), inner(), leaf(94)}, make([]api.Spot, 5))
			rooms, were = append(rooms, spots), append(were, slices.Clone(spots))
			room[i].Last.Tree = spots[:len(f.Last.Tree)]
		}
		was := slices.Clone(room)
		some := room[:len(l)]
		whole := Shape(some)
		shaped := slices.Concat(whole, []api.Spot{leaf(95), inner(), leaf(96)})
		wasShaped := slices.Clone(shaped)
		for range 2 {
			spots, drawing, who := Shape(some), Fresh(some, shaped[:len(whole)]), Members(some)
			again, others, all := Shape(some), Fresh(some, shaped[:len(whole)]), Members(some)
			if !slices.Equal(spots, whole) {
				t.Errorf("%s: another shape than before", what)
			}
			clear(again[:cap(again)])
			clear(others[:cap(others)])
			clear(all[:cap(all)])
			if !slices.Equal(spots, whole) {
				t.Errorf("%s: two shapes share memory", what)
			}
			checkWho(t, what, drawing, fresh(l, tree.Leaves(whole)))
			checkWho(t, what, who, members(l))
		}
		same := func(a, b api.Flush) bool {
			return a.Who == b.Who && a.Old == b.Old && a.Last.Id == b.Last.Id && a.Want == b.Want && len(a.Last.Tree) == len(b.Last.Tree) && len(a.Streams) == len(b.Streams)
		}
		if !slices.EqualFunc(room, was, same) || !slices.Equal(shaped, wasShaped) {
			t.Errorf("%s: is changed", what)
		}
		if !slices.EqualFunc(rooms, were, func(a, b []api.Spot) bool { return slices.Equal(a, b) }) {
			t.Errorf("%s: a tree is changed, or shared", what)
		}
	}
}

// Rules 4 and 6: the same arguments come to the same, in whatever goroutine.
func TestManyAtOnce(t *testing.T) {
	r := rand.New(rand.NewSource(6))
	var lists [][]api.Flush
	var want []*plant
	for range 20 {
		l := drawn(r, 30)
		lists, want = append(lists, l), append(want, shape(l))
	}
	var workers sync.WaitGroup
	for range 8 {
		workers.Go(func() {
			for i, l := range lists {
				whole := Shape(l)
				if !slices.Equal(whole, want[i].list()) || !slices.Equal(Fresh(l, whole), fresh(l, want[i].leaves())) || !slices.Equal(Members(l), members(l)) {
					t.Error("at once: not the same")
				}
			}
		})
	}
	workers.Wait()
}

// flushesIn makes what is told out of bytes: three of each one, of who it is,
// its key and whether it wants, and how many spots of its tree follow, one byte
// each.
func flushesIn(raw []byte) []api.Flush {
	var l []api.Flush
	for len(raw) >= 3 {
		f := api.Flush{Who: life(int(raw[0]%8), int(raw[0]/8%8)), Want: raw[1] >= 128}
		if raw[1]%4 > 0 {
			f.Last.Id = key(int(raw[1] % 4))
		}
		spots := raw[3:min(len(raw), 3+int(raw[2]%32))]
		raw = raw[3+len(spots):]
		f.Last.Tree = spotsIn(spots)
		l = append(l, f)
	}
	return l
}

// spotsIn makes a list of any kind out of bytes, one a spot.
func spotsIn(raw []byte) []api.Spot {
	l := make([]api.Spot, len(raw))
	for i, b := range raw {
		if b >= 8 {
			l[i] = api.Spot{Leaf: true, Who: life(int(b%8), int(b/8%8))}
		}
	}
	return l
}

// asked tells whether the calls are asked of l, but for streams: all may be, and
// no two are of one member.
func asked(l []api.Flush) bool {
	for _, f := range l {
		none := f.Last.Id == (api.ViewId{})
		if f.Who.Inc < 1 || !tree.Right(f.Last.Tree) || none != (len(f.Last.Tree) == 0) || !none && !slices.Contains(tree.Leaves(f.Last.Tree), f.Who) {
			return false
		}
	}
	return len(members(l)) == len(l)
}

// P1: no call panics, at any arguments; each answer is right of whatever may be
// told.
func FuzzAll(f *testing.F) {
	f.Add([]byte{}, []byte{})
	f.Add([]byte{8, 0, 0, 9, 128, 0, 10, 4, 0}, []byte{0, 8, 9})
	f.Add([]byte{8, 1, 5, 0, 8, 0, 9, 10, 10, 1, 5, 0, 8, 0, 9, 10, 11, 0, 0}, []byte{0, 0, 8, 10, 11})
	f.Add([]byte{8, 1, 3, 0, 8, 9, 9, 129, 3, 0, 9, 8, 10, 2, 3, 0, 10, 11, 11, 3, 1, 11}, []byte{0, 0, 8, 10, 11})
	f.Add([]byte{8, 1, 1, 8, 8, 0, 0, 8, 2, 3, 0, 8, 8}, []byte{0, 0})
	f.Fuzz(func(t *testing.T, raw, rawShape []byte) {
		l, spots := flushesIn(raw), spotsIn(rawShape)
		whole, drawing, who := Shape(l), Fresh(l, spots), Members(l)
		checkWho(t, "members", who, members(l))
		checkWho(t, "fresh", drawing, fresh(l, tree.Leaves(spots)))
		if !slices.Equal(spots, spotsIn(rawShape)) {
			t.Error("the shape that was handed in is changed")
		}
		for i, was := range flushesIn(raw) {
			if l[i].Who != was.Who || l[i].Last.Id != was.Last.Id || !slices.Equal(l[i].Last.Tree, was.Last.Tree) || l[i].Want != was.Want {
				t.Error("what was handed in is changed")
			}
		}
		if asked(l) {
			checkShape(t, fmt.Sprint(l), whole, shape(l))
			if !tree.Right(whole) {
				t.Errorf("%v: %v may not be", l, whole)
			}
		}
	})
}
