package exponent

import (
	"fmt"
	"math"
	"math/big"
	"math/rand"
	"slices"
	"strconv"
	"strings"
	"sync"
	"testing"

	"lodge/api"
	"lodge/label"
	"lodge/secret"
	"lodge/tree"
)

// great is the great group's prime as chapter 5 writes it.
const great = "FFFFFFFFFFFFFFFF C90FDAA22168C234 C4C6628B80DC1CD1 29024E088A67CC74" +
	" 020BBEA63B139B22 514A08798E3404DD EF9519B3CD3A431B 302B0A6DF25F1437" +
	" 4FE1356D6D51C245 E485B576625E7EC6 F44C42E9A637ED6B 0BFF5CB6F406B7ED" +
	" EE386BFB5A899FA5 AE9F24117C4B1FE6 49286651ECE45B3D C2007CB8A163BF05" +
	" 98DA48361C55D39A 69163FA8FD24CF5F 83655D23DCA3AD96 1C62F356208552BB" +
	" 9ED529077096966D 670C354E4ABC9804 F1746C08CA237327 FFFFFFFFFFFFFFFF"

// plant is a tree with halves of its own, to hold the lists against: a leaf
// has none.
type plant struct {
	who         api.Member
	left, right *plant
}

func life(node, inc int) api.Member { return api.Member{Node: node, Inc: inc} }

// nth is the member of the number n: no two numbers have the same.
func nth(n int) api.Member { return life(n%8, 1+n/8) }

func inner() api.Spot { return api.Spot{} }

func leaf(n int) api.Spot { return api.Spot{Leaf: true, Who: nth(n)} }

func at(level, index int) api.Label { return api.Label{Level: level, Index: index} }

func drawn(m api.Member, value string) api.Drawn { return api.Drawn{Who: m, Value: value} }

// one and two are plants of a number's member, and of two halves.
func one(n int) *plant       { return &plant{who: nth(n)} }
func two(a, b *plant) *plant { return &plant{left: a, right: b} }

// list are a plant's spots, in layer 9's order.
func (p *plant) list() []api.Spot { return p.behind(nil) }

// behind lays a plant's spots behind l.
func (p *plant) behind(l []api.Spot) []api.Spot {
	if p == nil {
		return l
	}
	if p.left == nil {
		return append(l, api.Spot{Leaf: true, Who: p.who})
	}
	return p.right.behind(p.left.behind(append(l, inner())))
}

// parts are all parts of a plant by the ways to them from the root: 0 for each
// left half, 1 for each right one.
func (p *plant) parts() map[string]*plant {
	all := map[string]*plant{}
	p.into(all, "")
	return all
}

// into notes the parts of what is at the end of a way.
func (p *plant) into(all map[string]*plant, path string) {
	if p == nil {
		return
	}
	all[path] = p
	p.left.into(all, path+"0")
	p.right.into(all, path+"1")
}

// along is the label of a place by the way to it. Its Index is that way, as a
// number of twos.
func along(path string) api.Label {
	index, _ := strconv.ParseInt("0"+path, 2, 64)
	return at(len(path), int(index))
}

// key is a plant's key by none of the project's own means: in each place what
// the left half's blinded key to the power of the right half's key counts as,
// which is the other way round than the chapter has it.
func (p *plant) key(kind int, secrets map[api.Member]string) string {
	if p == nil {
		return ""
	}
	if p.left == nil {
		return secrets[p.who]
	}
	left, right := p.left.key(kind, secrets), p.right.key(kind, secrets)
	if left == "" || right == "" {
		return ""
	}
	return agreed(kind, blinded(kind, left), right)
}

// blind is a plant's blinded key by none of the project's own means.
func (p *plant) blind(kind int, secrets map[api.Member]string) string {
	found := p.key(kind, secrets)
	if found == "" {
		return ""
	}
	return blinded(kind, found)
}

// formal is how a plant's key is put together.
func (p *plant) formal() string {
	if p == nil {
		return ""
	}
	if p.left == nil {
		return fmt.Sprintf("%d.%d", p.who.Node, p.who.Inc)
	}
	return fmt.Sprintf("(%s %s)", p.left.formal(), p.right.formal())
}

func groups() []int { return []int{api.GroupTiny, api.GroupSmall, api.GroupGreat} }

// small are the groups in which many trees have their keys soon.
func small() []int { return []int{api.GroupTiny, api.GroupSmall} }

// noGroups are numbers that tell no group.
func noGroups() []int {
	return []int{math.MinInt, -1, 2, 3, 4, 6, 23, 256, 1 << 32, 1<<32 + 1, math.MaxInt}
}

// prime is a group's prime; nil of none.
func prime(kind int) *big.Int {
	switch kind {
	case api.GroupTiny:
		return big.NewInt(23)
	case api.GroupSmall:
		return big.NewInt(2039)
	case api.GroupGreat:
		p, _ := new(big.Int).SetString(strings.ReplaceAll(great, " ", ""), 16)
		return p
	}
	return nil
}

func value(s string) *big.Int { return new(big.Int).SetBytes([]byte(s)) }

// blinded is what 2 to the power of s leaves, by math/big's means alone.
func blinded(kind int, s string) string {
	p := prime(kind)
	if p == nil {
		return ""
	}
	return string(new(big.Int).Exp(big.NewInt(2), value(s), p).Bytes())
}

// agreed is what a blinded key to the power of s counts as, by math/big's means
// alone.
func agreed(kind int, blind, s string) string {
	p := prime(kind)
	if p == nil {
		return ""
	}
	power := new(big.Int).Exp(value(blind), value(s), p)
	count := new(big.Int).Sub(new(big.Int).Rsh(p, 1), big.NewInt(2))
	power.Mod(power, count)
	return string(power.Add(power, big.NewInt(2)).Bytes())
}

// grow is a plant of members in that order: cut says how many of as many go to
// the left.
func grow(numbers []int, cut func(count int) int) *plant {
	if len(numbers) == 0 {
		return nil
	}
	if len(numbers) == 1 {
		return one(numbers[0])
	}
	middle := cut(len(numbers))
	return two(grow(numbers[:middle], cut), grow(numbers[middle:], cut))
}

func toLeft(count int) int  { return count - 1 }
func toRight(int) int       { return 1 }
func even(count int) int    { return count / 2 }
func unlike(count int) int  { return 1 + (count-1)/3 }
func byTurns(count int) int { return 1 + (count%2)*(count-2) }

func upTo(count int) []int {
	numbers := make([]int, count)
	for n := range numbers {
		numbers[n] = n
	}
	return numbers
}

// orders are two orders of as many numbers.
func orders(count int) [][]int {
	return [][]int{upTo(count), rand.New(rand.NewSource(int64(count))).Perm(count)}
}

// shapes are all trees of members in that order.
func shapes(numbers []int) []*plant {
	if len(numbers) == 1 {
		return []*plant{one(numbers[0])}
	}
	var all []*plant
	for middle := 1; middle < len(numbers); middle++ {
		for _, left := range shapes(numbers[:middle]) {
			for _, right := range shapes(numbers[middle:]) {
				all = append(all, two(left, right))
			}
		}
	}
	return all
}

// plants are trees that may be, at most 60 high, of many shapes; nil is nothing.
func plants() []*plant {
	all := []*plant{nil, one(0), one(63)}
	for count := 2; count <= 6; count++ {
		all = append(all, shapes(orders(count)[1])...)
	}
	for _, count := range []int{7, 8, 13, 33, 61} {
		for _, numbers := range orders(count) {
			for _, cut := range []func(int) int{toLeft, toRight, byTurns, even, unlike} {
				all = append(all, grow(numbers, cut))
			}
		}
	}
	return append(all, grow(upTo(64), even), grow(orders(64)[1], unlike))
}

// few are plants to the left, to the right, even and uneven, and one alone.
func few() []*plant {
	all := []*plant{one(5)}
	for _, count := range []int{2, 3, 5, 8} {
		for _, cut := range []func(int) int{toLeft, toRight, byTurns, even, unlike} {
			all = append(all, grow(orders(count)[1], cut))
		}
	}
	return all
}

// secretsOf are secrets of a group for members of all numbers below 70, from a
// fixed seed.
func secretsOf(kind int) []api.Drawn {
	r := rand.New(rand.NewSource(int64(14 + kind)))
	count := new(big.Int).Sub(new(big.Int).Rsh(prime(kind), 1), big.NewInt(2))
	var all []api.Drawn
	for n := range 70 {
		number := new(big.Int).Rand(r, count)
		all = append(all, drawn(nth(n), string(number.Add(number, big.NewInt(2)).Bytes())))
	}
	return all
}

// told are secrets by whose they are; the first one of each counts.
func told(secrets []api.Drawn) map[api.Member]string {
	all := map[api.Member]string{}
	for _, d := range secrets {
		if _, there := all[d.Who]; !there {
			all[d.Who] = d.Value
		}
	}
	return all
}

// lacking are secrets but for all of one member.
func lacking(secrets []api.Drawn, m api.Member) []api.Drawn {
	return slices.DeleteFunc(slices.Clone(secrets), func(d api.Drawn) bool { return d.Who == m })
}

// wrongSecrets are texts that no group has as secrets.
func wrongSecrets() []string {
	return []string{"\x00", "\x01", "\x00\x00", "\x00\x03", "\xff\xff\xff", strings.Repeat("\xff", 192), strings.Repeat("\x01", 400), strings.Repeat("\xff", 401), strings.Repeat("\x00", 1000)}
}

// wrongLabels are labels that may not be.
func wrongLabels() []api.Label {
	return []api.Label{
		at(-1, 0), at(-1, -1), at(-60, 0), at(math.MinInt, 0), at(math.MinInt, math.MaxInt),
		at(61, 0), at(61, 1<<61-1), at(62, 0), at(64, 0), at(64, 1), at(1<<32, 0), at(math.MaxInt, math.MaxInt),
		at(0, 1), at(0, -1), at(0, math.MaxInt), at(0, math.MinInt), at(1, 2), at(1, -1), at(2, 4), at(2, -1), at(3, 8),
		at(60, 1<<60), at(60, -1), at(60, math.MinInt),
	}
}

// crooked are lists that may be no trees.
func crooked() map[string][]api.Spot {
	return map[string][]api.Spot{
		"an inner spot alone":         {inner()},
		"inner spots alone":           make([]api.Spot, 1<<16),
		"two leaves":                  {leaf(0), leaf(1)},
		"leaves alone":                slices.Repeat([]api.Spot{leaf(0), leaf(1)}, 1<<15),
		"a leaf, then an inner spot":  {leaf(0), inner()},
		"one half alone":              {inner(), leaf(0)},
		"halves ahead of their spot":  {leaf(0), leaf(1), inner()},
		"three halves":                {inner(), leaf(0), leaf(1), leaf(2)},
		"two trees":                   {inner(), leaf(0), leaf(1), inner(), leaf(2), leaf(3)},
		"the right half not ended":    {inner(), leaf(0), inner(), leaf(1)},
		"the left half not ended":     {inner(), inner(), leaf(0), leaf(1)},
		"nothing in the right half":   {inner(), inner(), leaf(0), leaf(1), inner()},
		"somebody's inner spot":       {{Who: nth(1)}, leaf(0), leaf(1)},
		"one member twice":            {inner(), leaf(1), leaf(1)},
		"nobody's leaf":               {{Leaf: true}},
		"nobody's leaf, to the right": {inner(), leaf(0), {Leaf: true}},
		"who may not be":              {inner(), {Leaf: true, Who: life(-1, math.MinInt)}, {Leaf: true, Who: life(math.MaxInt, 0)}},
		"65 leaves":                   grow(upTo(65), even).list(),
		"65 leaves, high":             grow(upTo(65), toRight).list(),
		"a high one":                  grow(upTo(1<<12), toLeft).list(),
		"the highest one":             grow(upTo(1<<16), toRight).list(),
	}
}

// same tells where two texts are not the same.
func same(t *testing.T, what string, got, want string) {
	t.Helper()
	if got != want {
		t.Errorf("%s: %q, want %q", what, got, want)
	}
}

// P14.1: the chapter's example, and the same three secrets in another shape,
// worked out by hand.
func TestExamples(t *testing.T) {
	a, b, c := tree.Leaf(nth(0)), tree.Leaf(nth(1)), tree.Leaf(nth(2))
	secrets := []api.Drawn{drawn(nth(0), "\x03"), drawn(nth(1), "\x05"), drawn(nth(2), "\x07")}
	pair := tree.Join(a, b)
	same(t, "put together", Formal(pair), "(0.1 1.1)")
	same(t, "alone", Key(api.GroupTiny, a, secrets), "\x03")
	// 9 to the power of 3 leaves 16 of 23, which counts as 9, and 2 to the power
	// of that leaves 6.
	same(t, "two", Key(api.GroupTiny, pair, secrets), "\x09")
	same(t, "two, by layer 6", Key(api.GroupTiny, pair, secrets), secret.Agree(api.GroupTiny, "\x09", "\x03"))
	same(t, "two, blinded", Blinded(api.GroupTiny, pair, secrets, at(0, 0)), "\x06")
	same(t, "the left one, blinded", Blinded(api.GroupTiny, pair, secrets, at(1, 0)), "\x08")
	same(t, "the right one, blinded", Blinded(api.GroupTiny, pair, secrets, at(1, 1)), "\x09")
	// 6 to the power of 7 leaves 3, which counts as 5, and 2 to the power of that
	// leaves 9.
	left := tree.Join(pair, c)
	same(t, "three", Key(api.GroupTiny, left, secrets), "\x05")
	same(t, "three, blinded", Blinded(api.GroupTiny, left, secrets, at(0, 0)), "\x09")
	same(t, "of three the left half, blinded", Blinded(api.GroupTiny, left, secrets, at(1, 0)), "\x06")
	same(t, "of three, put together", Formal(left), "((0.1 1.1) 2.1)")
	// 13, 7's blinded key, to the power of 5 leaves 4, which counts as 6, whose
	// blinded key is 18; that to the power of 3 leaves 13, which counts as 6.
	right := tree.Join(a, tree.Join(b, c))
	same(t, "to the right", Key(api.GroupTiny, right, secrets), "\x06")
	same(t, "to the right, the right half, blinded", Blinded(api.GroupTiny, right, secrets, at(1, 1)), "\x12")
	same(t, "to the right, put together", Formal(right), "(0.1 (1.1 2.1))")
}

// P14.1: the secret of a member that is told of once, of one that is told of
// twice, of a node's other lives, and of who isn't told of.
func TestSecret(t *testing.T) {
	l := []api.Drawn{
		{Who: life(3, 1), Value: "\x04", At: 9},
		{Who: life(1, 1), Value: "\x03", At: 7},
		{Who: life(1, 2), Value: "\x05", At: 1},
		{Who: life(3, 1), Value: "\x06", At: 2},
		{Who: life(2, 1), Value: "", At: 1},
		{Who: life(2, 1), Value: "\x07", At: 2},
		{Who: life(3, 1), Value: "\x08", At: 12},
	}
	for m, want := range map[api.Member]string{
		life(1, 1): "\x03",
		life(1, 2): "\x05",
		// Ahead of the others by where it stands, not by when it was drawn.
		life(3, 1): "\x04",
		life(2, 1): "",
		life(1, 3): "", life(3, 2): "", life(4, 1): "", life(0, 1): "",
		life(1, 0): "", life(1, -1): "", life(-1, 1): "", life(0, 0): "",
		life(1, 1+1<<32): "", life(1+1<<32, 1): "", life(2, 3): "",
		life(math.MinInt, math.MinInt): "", life(math.MaxInt, math.MaxInt): "",
	} {
		same(t, fmt.Sprint("the secret of ", m), Secret(l, m), want)
	}
	same(t, "without the first one", Secret(l[1:], life(3, 1)), "\x06")
	same(t, "cut off ahead of it", Secret(l[:1], life(1, 1)), "")
	for _, none := range [][]api.Drawn{nil, {}, l[:0], l[7:]} {
		same(t, "of none", Secret(none, life(1, 1)), "")
		same(t, "of none, nobody's", Secret(none, life(0, 0)), "")
	}
}

// P14.1: whatever the members and the texts are, Secret takes them as they are.
func TestAnySecret(t *testing.T) {
	for _, s := range append(wrongSecrets(), "\x02", strings.Repeat("ab", 1<<20)) {
		for _, m := range []api.Member{nth(0), {}, life(-1, -1), life(math.MaxInt, math.MinInt)} {
			same(t, "any", Secret([]api.Drawn{drawn(nth(9), "\x02"), drawn(m, s)}, m), s)
		}
	}
}

// P14.1: the key of nothing is nothing, whatever secrets there are.
func TestKeyOfNothing(t *testing.T) {
	room := []api.Spot{leaf(0), leaf(1)}
	for _, kind := range append(groups(), noGroups()...) {
		for _, l := range [][]api.Spot{nil, {}, room[:0], room[2:]} {
			secrets := []api.Drawn{drawn(nth(0), "\x03"), drawn(api.Member{}, "\x04")}
			same(t, "of nothing", Key(kind, l, secrets), "")
			same(t, "of nothing, no secrets", Key(kind, l, nil), "")
			same(t, "of nothing, blinded", Blinded(kind, l, secrets, at(0, 0)), "")
		}
	}
	same(t, "of nothing, put together", Formal(nil)+Formal([]api.Spot{})+Formal(room[:0]), "")
}

// P14.1: the key of a leaf is its member's secret, as it is; nothing, if there
// is none.
func TestKeyOfLeaf(t *testing.T) {
	for _, kind := range append(groups(), noGroups()...) {
		for n := range 64 {
			l := tree.Leaf(nth(n))
			secrets := []api.Drawn{drawn(nth(n+64), "\x04"), drawn(nth(n), "\x03"), drawn(nth(n), "\x05")}
			same(t, "of a leaf", Key(kind, l, secrets), "\x03")
			same(t, "of a leaf, nobody told", Key(kind, l, secrets[:1]), "")
			same(t, "of a leaf, another life", Key(kind, l, []api.Drawn{drawn(life(nth(n).Node, 90), "\x03")}), "")
			same(t, "of a leaf, no secrets", Key(kind, l, nil), "")
		}
		for _, s := range wrongSecrets() {
			same(t, "as it is", Key(kind, tree.Leaf(nth(2)), []api.Drawn{drawn(nth(2), s)}), s)
		}
		same(t, "an empty one", Key(kind, tree.Leaf(nth(2)), []api.Drawn{drawn(nth(2), ""), drawn(nth(2), "\x03")}), "")
	}
}

// P14.1: two, of all secrets of the tiny group: what the right one's blinded key
// to the power of the left one's leaves, multiplied one by one.
func TestKeyOfTwo(t *testing.T) {
	l := tree.Join(tree.Leaf(nth(0)), tree.Leaf(nth(1)))
	for left := 2; left < 11; left++ {
		for right := 2; right < 11; right++ {
			power := 1
			for range left * right {
				power = power * 2 % 23
			}
			secrets := []api.Drawn{drawn(nth(1), string([]byte{byte(right)})), drawn(nth(0), string([]byte{byte(left)}))}
			same(t, fmt.Sprint("of ", left, " and ", right), Key(api.GroupTiny, l, secrets), string([]byte{byte(2 + power%9)}))
		}
	}
}

// P14.1: trees of all shapes, in the small groups, against keys by math/big.
func TestKey(t *testing.T) {
	for _, kind := range small() {
		secrets := secretsOf(kind)
		for _, p := range plants() {
			same(t, fmt.Sprint("the key of ", p.formal()), Key(kind, p.list(), secrets), p.key(kind, told(secrets)))
		}
	}
}

// P14.1: the great group.
func TestKeyOfGreat(t *testing.T) {
	secrets := secretsOf(api.GroupGreat)
	for _, p := range few() {
		l, want := p.list(), p.key(api.GroupGreat, told(secrets))
		same(t, "great", Key(api.GroupGreat, l, secrets), want)
		same(t, "great, blinded", Blinded(api.GroupGreat, l, secrets, at(0, 0)), p.blind(api.GroupGreat, told(secrets)))
		if len(l) > 1 && !secret.Right(api.GroupGreat, want) {
			t.Errorf("of %s: no secret, %q", p.formal(), want)
		}
	}
}

// P14.1 and P14.2: step by step from the leaves up: at each inner place what
// layer 6's Agree answers of the blinded key of the right half and the key of the
// left one, and from the other side the same.
func TestStepByStep(t *testing.T) {
	for _, kind := range small() {
		secrets := secretsOf(kind)
		for _, p := range plants() {
			parts := p.parts()
			paths := []string{}
			for path := range parts {
				paths = append(paths, path)
			}
			slices.SortFunc(paths, func(a, b string) int { return len(b) - len(a) })
			known := map[string]string{}
			for _, path := range paths {
				known[path] = Secret(secrets, parts[path].who)
				if parts[path].left != nil {
					left, right := known[path+"0"], known[path+"1"]
					known[path] = secret.Agree(kind, secret.Blind(kind, right), left)
					same(t, "from the other side", secret.Agree(kind, secret.Blind(kind, left), right), known[path])
				}
				same(t, "step by step, of "+parts[path].formal(), Key(kind, parts[path].list(), secrets), known[path])
			}
		}
	}
}

// P14.2: each member comes to the tree's key, from its own secret and the
// blinded keys of the places beside its way up alone.
func TestFromEachMember(t *testing.T) {
	for _, kind := range small() {
		secrets := secretsOf(kind)
		for _, p := range plants() {
			l := p.list()
			want := Key(kind, l, secrets)
			for _, m := range tree.Leaves(l) {
				found := Secret(secrets, m)
				for _, x := range label.Way(l, m) {
					if beside, ok := label.Beside(x); ok {
						found = secret.Agree(kind, Blinded(kind, l, secrets, beside), found)
					}
				}
				same(t, fmt.Sprint("of ", p.formal(), ", from ", m), found, want)
			}
		}
	}
}

// swap turns the halves of a plant the other way round.
func (p *plant) swap() { p.left, p.right = p.right, p.left }

// P14.2: with the halves of any place the other way round, and of all of them,
// it is the same key.
func TestHalvesSwapped(t *testing.T) {
	for _, kind := range groups() {
		secrets := secretsOf(kind)
		for _, p := range few() {
			want := Key(kind, p.list(), secrets)
			parts := p.parts()
			for path, part := range parts {
				// The great group takes long: the root's place has to do there.
				if kind == api.GroupGreat && path != "" {
					continue
				}
				part.swap()
				same(t, "swapped at "+path+": "+p.formal(), Key(kind, p.list(), secrets), want)
				part.swap()
			}
			if kind == api.GroupGreat {
				continue
			}
			for _, part := range parts {
				part.swap()
			}
			same(t, "all swapped: "+p.formal(), Key(kind, p.list(), secrets), want)
		}
	}
}

// P14.1: without any one member's secret there is no key of any part that it is
// in, and no blinded one; all others are as they were.
func TestOneMissing(t *testing.T) {
	for _, kind := range append(small(), noGroups()...) {
		all := []api.Drawn{}
		for n := range 64 {
			all = append(all, drawn(nth(n), string([]byte{byte(2 + n%9)})))
		}
		for _, p := range plants() {
			l := p.list()
			for i, m := range tree.Leaves(l) {
				// Of great trees each member would take long.
				if len(l) > 30 && i%10 != 0 {
					continue
				}
				secrets := lacking(all, m)
				same(t, fmt.Sprint("without ", m, ", of ", p.formal()), Key(kind, l, secrets), "")
				same(t, fmt.Sprint("without ", m, ", blinded, of ", p.formal()), Blinded(kind, l, secrets, at(0, 0)), "")
				same(t, fmt.Sprint("an empty one of ", m), Key(kind, l, append([]api.Drawn{drawn(m, "")}, all...)), "")
				same(t, fmt.Sprint("another life of ", m), Key(kind, l, append(secrets, drawn(life(m.Node, m.Inc+64), "\x03"))), "")
			}
			same(t, "without all", Key(kind, l, nil), "")
		}
	}
}

// P14.1: secrets of others, other lives of the members, later secrets of their
// own, and in which order all are told, change nothing.
func TestOthersChangeNothing(t *testing.T) {
	for _, kind := range small() {
		all := secretsOf(kind)
		for _, p := range plants() {
			l := p.list()
			members := tree.Leaves(l)
			var own []api.Drawn
			for _, m := range members {
				own = append(own, drawn(m, Secret(all, m)))
			}
			want := Key(kind, l, own)
			others := []api.Drawn{drawn(api.Member{}, "\x02"), drawn(nth(99), "\x07"), drawn(life(-1, 1), "\x08")}
			var later []api.Drawn
			for _, m := range members {
				others = append(others, drawn(life(m.Node, m.Inc+64), "\x03"), drawn(life(m.Node+64, m.Inc), "\x04"))
				later = append(later, api.Drawn{Who: m, Value: "\x05", At: -1})
			}
			back := slices.Clone(own)
			slices.Reverse(back)
			for what, secrets := range map[string][]api.Drawn{
				"others ahead":  slices.Concat(others, own),
				"others behind": slices.Concat(own, others),
				"later ones":    slices.Concat(own, later),
				"all":           slices.Concat(others, own, later, others),
				"back":          back,
			} {
				same(t, what+", of "+p.formal(), Key(kind, l, secrets), want)
				same(t, what+", blinded, of "+p.formal(), Blinded(kind, l, secrets, at(0, 0)), p.blind(kind, told(own)))
			}
		}
	}
}

// P14.1: of a member that is told of twice the first secret is in the key.
func TestFirstInKey(t *testing.T) {
	l := tree.Join(tree.Leaf(nth(0)), tree.Leaf(nth(1)))
	first := []api.Drawn{drawn(nth(1), "\x05"), {Who: nth(0), Value: "\x03", At: 5}, {Who: nth(0), Value: "\x02", At: 1}}
	same(t, "the first one", Key(api.GroupTiny, l, first), agreed(api.GroupTiny, "\x09", "\x03"))
	other := []api.Drawn{first[2], first[0], first[1]}
	same(t, "the other one", Key(api.GroupTiny, l, other), agreed(api.GroupTiny, "\x09", "\x02"))
	if Key(api.GroupTiny, l, first) == Key(api.GroupTiny, l, other) {
		t.Error("the same key of other secrets")
	}
}

// P14.1: the blinded key at each place of trees of all shapes: the root's, inner
// ones and leaves; it is the Blind of the Key of the part there.
func TestBlinded(t *testing.T) {
	for _, kind := range small() {
		secrets := secretsOf(kind)
		for _, p := range plants() {
			l := p.list()
			for path, part := range p.parts() {
				x := along(path)
				got := Blinded(kind, l, secrets, x)
				same(t, fmt.Sprint("at ", x, " of ", p.formal()), got, part.blind(kind, told(secrets)))
				same(t, fmt.Sprint("by layers 6 and 10, at ", x, " of ", p.formal()), got, secret.Blind(kind, Key(kind, label.Part(l, x), secrets)))
			}
		}
	}
}

// P14.1: at labels that are no place of the tree, and at ones that may not be,
// there is nothing.
func TestBlindedNowhere(t *testing.T) {
	for _, kind := range small() {
		secrets := append(secretsOf(kind), drawn(api.Member{}, "\x03"))
		for _, p := range plants() {
			l, parts := p.list(), p.parts()
			for _, x := range wrongLabels() {
				same(t, fmt.Sprint("at ", x), Blinded(kind, l, secrets, x), "")
			}
			for path, part := range parts {
				if part.left == nil && len(path) < 60 {
					same(t, "below a leaf", Blinded(kind, l, secrets, along(path+"0")), "")
					same(t, "below a leaf, to the right", Blinded(kind, l, secrets, along(path+"1")), "")
				}
			}
			for level := range 61 {
				for _, digit := range []string{"0", "1"} {
					if path := strings.Repeat(digit, level); parts[path] == nil {
						same(t, "at "+path, Blinded(kind, l, secrets, along(path)), "")
					}
				}
			}
		}
	}
}

// P14.1: where a secret of the part is missing, it has no blinded key; other
// parts have theirs.
func TestBlindedMissing(t *testing.T) {
	for _, p := range few() {
		l := p.list()
		for _, m := range tree.Leaves(l) {
			secrets := lacking(secretsOf(api.GroupSmall), m)
			for path, part := range p.parts() {
				want := part.blind(api.GroupSmall, told(secrets))
				if slices.Contains(tree.Leaves(part.list()), m) {
					want = ""
				} else if want == "" {
					t.Error("no blinded key, though all of it is there")
				}
				same(t, fmt.Sprint("without ", m, " at ", along(path), " of ", p.formal()), Blinded(api.GroupSmall, l, secrets, along(path)), want)
			}
		}
	}
}

// P14.1: how trees are put together, in whole; numbers of several digits among
// them.
func TestFormal(t *testing.T) {
	lone := func(node, inc int) []api.Spot { return tree.Leaf(life(node, inc)) }
	a, b, c, d := lone(0, 1), lone(7, 10), lone(3, 2147483647), lone(12, 345)
	for want, l := range map[string][]api.Spot{
		"":                                    nil,
		"0.1":                                 a,
		"7.10":                                b,
		"3.2147483647":                        c,
		"12.345":                              d,
		"(0.1 7.10)":                          tree.Join(a, b),
		"(7.10 0.1)":                          tree.Join(b, a),
		"((0.1 7.10) 3.2147483647)":           tree.Join(tree.Join(a, b), c),
		"(0.1 (7.10 3.2147483647))":           tree.Join(a, tree.Join(b, c)),
		"(((0.1 7.10) 12.345) 3.2147483647)":  tree.Join(tree.Join(tree.Join(a, b), d), c),
		"((0.1 7.10) (12.345 3.2147483647))":  tree.Join(tree.Join(a, b), tree.Join(d, c)),
		"(0.1 (7.10 (12.345 3.2147483647)))":  tree.Join(a, tree.Join(b, tree.Join(d, c))),
		"(0.1 ((7.10 12.345) 3.2147483647))":  tree.Join(a, tree.Join(tree.Join(b, d), c)),
		"((0.1 (7.10 12.345)) 3.2147483647)":  tree.Join(tree.Join(a, tree.Join(b, d)), c),
		"(0.1 0.11)":                          tree.Join(a, lone(0, 11)),
		"(-1.-20 -9223372036854775808.0)":     tree.Join(lone(-1, -20), lone(math.MinInt, 0)),
		"(9223372036854775807.1 0.100000000)": tree.Join(lone(math.MaxInt, 1), lone(0, 100000000)),
	} {
		same(t, "put together", Formal(l), want)
	}
	for _, p := range plants() {
		same(t, "put together", Formal(p.list()), p.formal())
	}
}

// P14.1: no two trees of unlike members, or of an unlike shape, are put together
// alike; one and the same tree always is.
func TestFormalUnlike(t *testing.T) {
	seen := map[string]string{}
	note := func(p *plant) {
		got, spots := Formal(p.list()), tree.Print(p.list())
		if other, there := seen[got]; there && other != spots {
			t.Errorf("two trees are put together as %s", got)
		}
		seen[got] = spots
		same(t, "once more", Formal(slices.Clone(p.list())), got)
	}
	lives := []api.Member{life(0, 1), life(0, 11), life(1, 1), life(1, 11), life(1, 0), life(0, 111), life(1, 111), life(11, 1)}
	alone := func(m api.Member) *plant { return &plant{who: m} }
	for _, m := range lives {
		note(alone(m))
		for _, n := range lives {
			note(two(alone(m), alone(n)))
			for _, o := range lives {
				note(two(two(alone(m), alone(n)), alone(o)))
				note(two(alone(m), two(alone(n), alone(o))))
			}
		}
	}
	for _, p := range plants() {
		note(p)
	}
	if want := 8 + 64 + 2*512; len(seen) < want {
		t.Errorf("%d texts, want %d at least", len(seen), want)
	}
}

// P1: groups that are none: no key but a leaf's own secret, nothing blinded, and
// no call panics.
func TestNoGroups(t *testing.T) {
	secrets := secretsOf(api.GroupTiny)
	for _, kind := range noGroups() {
		for _, p := range plants() {
			l := p.list()
			want := ""
			if len(l) == 1 {
				want = Secret(secrets, l[0].Who)
			}
			same(t, "of no group", Key(kind, l, secrets), want)
			for _, x := range append(wrongLabels(), at(0, 0), at(1, 0), at(1, 1), at(2, 3)) {
				same(t, "of no group, blinded", Blinded(kind, l, secrets, x), "")
			}
		}
	}
}

// P1: secrets that may not be one count as numbers, as in layer 6; no call
// panics. Only where there is no byte at all, there is no secret.
func TestWrongSecrets(t *testing.T) {
	for _, kind := range groups() {
		for _, s := range wrongSecrets() {
			for _, p := range few()[:6] {
				l := p.list()
				for i, m := range tree.Leaves(l) {
					secrets := append([]api.Drawn{drawn(m, s)}, secretsOf(api.GroupTiny)...)
					same(t, fmt.Sprintf("of %q", s), Key(kind, l, secrets), p.key(kind, told(secrets)))
					same(t, fmt.Sprintf("of %q, blinded", s), Blinded(kind, l, secrets, at(0, 0)), p.blind(kind, told(secrets)))
					x := label.Way(l, m)[0]
					same(t, fmt.Sprintf("of %q, the %d. leaf, blinded", s, i), Blinded(kind, l, secrets, x), blinded(kind, s))
				}
			}
		}
	}
}

// askAll makes every call of l that a test can think of.
func askAll(l []api.Spot, secrets []api.Drawn) []string {
	all := []string{Formal(l)}
	for _, kind := range []int{api.GroupTiny, api.GroupSmall, 2, -1, math.MaxInt} {
		all = append(all, Key(kind, l, secrets))
		for _, x := range append(wrongLabels(), at(0, 0), at(1, 0), at(1, 1), at(2, 0), at(2, 3), at(60, 0), at(60, 1<<60-1)) {
			all = append(all, Blinded(kind, l, secrets, x))
		}
	}
	return all
}

// P1: lists that may be no tree: no call panics; what isn't just one whole tree
// has no key, and isn't put together.
func TestCrooked(t *testing.T) {
	lists := crooked()
	for _, p := range few() {
		l := p.list()
		for count := 1; count < len(l); count++ {
			lists[fmt.Sprint("cut off: ", l[:count])] = l[:count]
			lists[fmt.Sprint("cut off ahead: ", l[count:])] = l[count:]
		}
	}
	secrets := secretsOf(api.GroupTiny)
	for what, l := range lists {
		askAll(l, nil)
		askAll(l, secrets)
		if tree.End(l, 0) != len(l) {
			same(t, what, Key(api.GroupTiny, l, secrets)+Formal(l), "")
		}
	}
}

// P1: of trees with more leaves than may be, and higher ones, the key is what
// the words say, too.
func TestTooMany(t *testing.T) {
	for _, count := range []int{65, 66, 300, 1 << 10} {
		for _, cut := range []func(int) int{toLeft, toRight, byTurns, even} {
			p := grow(upTo(count), cut)
			var secrets []api.Drawn
			for n := range count {
				secrets = append(secrets, drawn(nth(n), string([]byte{byte(2 + n%9)})))
			}
			same(t, fmt.Sprint(count, " leaves"), Key(api.GroupTiny, p.list(), secrets), p.key(api.GroupTiny, told(secrets)))
			same(t, fmt.Sprint(count, " leaves, put together"), Formal(p.list()), p.formal())
		}
	}
}

// Rule 3: what is handed in is as it was, its spare room too.
func TestNothingChanges(t *testing.T) {
	lists := crooked()
	for _, p := range few() {
		lists["tree "+p.formal()] = p.list()
	}
	for what, given := range lists {
		spots := slices.Concat(given, []api.Spot{leaf(90), inner(), leaf(91)})
		drawns := append(secretsOf(api.GroupTiny), drawn(nth(90), "\x03"), drawn(nth(91), "\x04"))
		wereSpots, wereDrawns := slices.Clone(spots), slices.Clone(drawns)
		l, secrets := spots[:len(given)], drawns[:70]
		askAll(l, secrets)
		same(t, "in the spare room", Secret(secrets, nth(90)), "")
		if !slices.Equal(spots, wereSpots) || !slices.Equal(drawns, wereDrawns) {
			t.Errorf("%s: is changed", what)
		}
	}
}

// Rules 4 and 6: the same arguments come to the same, in whatever goroutine.
func TestManyAtOnce(t *testing.T) {
	secrets := secretsOf(api.GroupSmall)
	var lists [][]api.Spot
	var want [][]string
	for _, p := range few() {
		lists = append(lists, p.list())
		want = append(want, askAll(p.list(), secrets))
	}
	var workers sync.WaitGroup
	for range 8 {
		workers.Go(func() {
			for i, l := range lists {
				if !slices.Equal(askAll(l, secrets), want[i]) {
					t.Error("at once: not the same")
				}
			}
		})
	}
	workers.Wait()
}

// planted is the plant of a list that is just one whole tree.
func planted(l []api.Spot) *plant {
	if l[0].Leaf {
		return &plant{who: l[0].Who}
	}
	a, b, _ := tree.Halves(l)
	return two(planted(a), planted(b))
}

// listOf makes a list of any kind out of bytes, one a spot.
func listOf(raw []byte) []api.Spot {
	l := make([]api.Spot, len(raw))
	for i, b := range raw {
		if b >= 8 {
			l[i] = api.Spot{Leaf: true, Who: life(int(b%8), int(b/8))}
		}
	}
	return l
}

// secretsIn makes secrets out of bytes, three each: whose, and two of the
// secret, the first one of which is left out if it is nought, so that there are
// empty ones and ones of a nought.
func secretsIn(raw []byte) []api.Drawn {
	var all []api.Drawn
	for three := range slices.Chunk(raw, 3) {
		text := strings.TrimLeft(string(three[1:]), "\x00")
		if three[0] >= 128 {
			text = string(three[1:])
		}
		all = append(all, api.Drawn{Who: life(int(three[0]%8), int(three[0]%128/8)), Value: text, At: len(all)})
	}
	return all
}

// P1: no call panics, at any arguments; each answer is right of whatever may be
// a tree.
func FuzzAll(f *testing.F) {
	for _, p := range append(few(), nil) {
		raw, secrets := []byte{}, []byte{}
		for _, spot := range p.list() {
			raw = append(raw, byte(8*spot.Who.Inc+spot.Who.Node))
			secrets = append(secrets, byte(8*spot.Who.Inc+spot.Who.Node), 0, 2+byte(len(secrets)%9))
		}
		f.Add(raw, secrets, api.GroupTiny, 1, 1)
		f.Add(raw, append([]byte{8, 0, 0}, secrets...), api.GroupSmall, 0, 0)
	}
	for _, x := range wrongLabels() {
		f.Add([]byte{0, 0, 8, 9, 10}, []byte{8, 0, 3, 9, 0, 5, 10, 0, 7}, x.Index, x.Level, x.Index)
	}
	f.Fuzz(func(t *testing.T, raw, drawns []byte, kind, level, index int) {
		l, secrets, x := listOf(raw), secretsIn(drawns), at(level, index)
		// In the great group one would wait for long.
		if kind == api.GroupGreat && len(l) > 20 {
			kind = api.GroupSmall
		}
		found, blind, text := Key(kind, l, secrets), Blinded(kind, l, secrets, x), Formal(l)
		if !slices.Equal(l, listOf(raw)) || !slices.Equal(secrets, secretsIn(drawns)) {
			t.Error("what was handed in is changed")
		}
		if tree.End(l, 0) != len(l) {
			same(t, "of no tree", found+text, "")
			return
		}
		p, want := planted(l), ""
		if !tree.Right(l) || tree.Height(l) > 60 {
			return
		}
		for path, part := range p.parts() {
			if along(path) == x {
				want = part.blind(kind, told(secrets))
			}
		}
		same(t, "the key", found, p.key(kind, told(secrets)))
		same(t, "blinded", blind, want)
		same(t, "put together", text, p.formal())
	})
}
