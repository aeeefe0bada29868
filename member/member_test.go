package member

import (
	"encoding/binary"
	"math"
	"math/big"
	"math/rand"
	"slices"
	"sync"
	"testing"

	"lodge/api"
	"lodge/lay"
)

// nodes are those that may be, and such as may not, at each edge.
func nodes() []int {
	return []int{0, 1, 2, 6, 7, 8, 9, 15, 255, 256, 1<<31 - 1, 1 << 31, 1 << 32, 1<<32 + 1, -1, -2, -8, -1 << 31, math.MinInt, math.MinInt + 1, math.MaxInt - 1, math.MaxInt}
}

// numbers of lives and of views are ordinary ones, and each edge.
func numbers() []int {
	return []int{0, 1, 2, 3, 7, 8, 9, 258, 1<<16 + 1, 1<<24 - 1, 1 << 30, 1<<31 - 2, 1<<31 - 1, 1 << 31, 1<<31 + 1, 1<<32 - 1, 1 << 32, 1<<32 + 1, -1, -2, -1 << 31, -1<<31 + 1, math.MinInt, math.MinInt + 1, math.MaxInt - 1, math.MaxInt}
}

func members() []api.Member {
	var all []api.Member
	for _, node := range nodes() {
		for _, inc := range numbers() {
			all = append(all, api.Member{Node: node, Inc: inc})
		}
	}
	return all
}

func ids() []api.ViewId {
	var all []api.ViewId
	for _, counter := range numbers() {
		for _, m := range members() {
			all = append(all, id(counter, m.Node, m.Inc))
		}
	}
	return all
}

func life(node, inc int) api.Member { return api.Member{Node: node, Inc: inc} }

func id(counter, node, inc int) api.ViewId {
	return api.ViewId{Counter: counter, Node: node, Inc: inc}
}

// mayBe is the chapter's rule for a member, each node written out.
func mayBe(m api.Member) bool {
	return slices.Contains([]int{0, 1, 2, 3, 4, 5, 6, 7}, m.Node) && rises(m.Inc)
}

// rises tells whether n is 1 to below 2^31, by math/big's means alone.
func rises(n int) bool {
	wide := big.NewInt(int64(n))
	return wide.Sign() > 0 && wide.BitLen() <= 31
}

// idMayBe is the chapter's rule for an id.
func idMayBe(v api.ViewId) bool {
	if v.Counter == 0 && v.Node == 0 && v.Inc == 0 {
		return true
	}
	return rises(v.Counter) && mayBe(life(v.Node, v.Inc))
}

// four are the bytes of a number of 32 bits, by the library's means alone.
func four(n uint32) string { return string(binary.BigEndian.AppendUint32(nil, n)) }

// low is what of n is laid: its rest by 2^31, by math/big's means alone.
func low(n int) uint32 {
	return uint32(new(big.Int).Mod(big.NewInt(int64(n)), big.NewInt(1<<31)).Int64())
}

func memberBytes(m api.Member) string { return four(low(m.Node)) + four(low(m.Inc)) }

func idBytes(v api.ViewId) string { return four(low(v.Counter)) + four(low(v.Node)) + four(low(v.Inc)) }

// readNumbers takes off l as many numbers as there are bounds, up to the first
// one that isn't there or is above its bound: none, and Bad, then.
func readNumbers(l lay.Left, most ...int64) ([]int, lay.Left) {
	var got []int
	for _, bound := range most {
		if l.Bad || len(l.S) < 4 {
			return nil, lay.Left{S: l.S, Bad: true}
		}
		n := int64(binary.BigEndian.Uint32([]byte(l.S)))
		got = append(got, int(n))
		l = lay.Left{S: l.S[4:], Bad: n > bound}
	}
	return got, l
}

// readMember is what Read is to answer of l, and to leave.
func readMember(l lay.Left) (api.Member, lay.Left) {
	n, l := readNumbers(l, 7, 1<<31-1)
	if l.Bad || !mayBe(life(n[0], n[1])) {
		return api.Member{}, lay.Left{S: l.S, Bad: true}
	}
	return life(n[0], n[1]), l
}

// readId is what ReadId is to answer of l, and to leave.
func readId(l lay.Left) (api.ViewId, lay.Left) {
	n, l := readNumbers(l, 1<<31-1, 7, 1<<31-1)
	if l.Bad || !idMayBe(id(n[0], n[1], n[2])) {
		return api.ViewId{}, lay.Left{S: l.S, Bad: true}
	}
	return id(n[0], n[1], n[2]), l
}

// stands tells where a Left isn't as it must be.
func stands(t *testing.T, what string, l *lay.Left, want lay.Left) {
	t.Helper()
	if *l != want {
		t.Errorf("%s: left is %q, Bad %v, want %q, Bad %v", what, l.S, l.Bad, want.S, want.Bad)
	}
}

// reads tells where Read reads otherwise than it must.
func reads(t *testing.T, what string, l *lay.Left) {
	t.Helper()
	before := *l
	want, after := readMember(before)
	if got := Read(l); got != want {
		t.Errorf("%s: %q is read as %v, want %v", what, before.S, got, want)
	}
	stands(t, what, l, after)
}

// readsId tells where ReadId reads otherwise than it must.
func readsId(t *testing.T, what string, l *lay.Left) {
	t.Helper()
	before := *l
	want, after := readId(before)
	if got := ReadId(l); got != want {
		t.Errorf("%s: %q is read as %v, want %v", what, before.S, got, want)
	}
	stands(t, what, l, after)
}

// staysBad tells where a Left that is Bad is read from, or turns good.
func staysBad(t *testing.T, what string, l *lay.Left) {
	t.Helper()
	// More to read does not make it good.
	l.S += memberBytes(life(1, 1)) + idBytes(id(1, 1, 1)) + idBytes(id(0, 0, 0))
	rest := l.S
	for range 3 {
		if m, v := Read(l), ReadId(l); m != life(0, 0) || v != id(0, 0, 0) {
			t.Errorf("%s: Bad, and then %v and %v are read", what, m, v)
		}
		if !l.Bad || l.S != rest || l.Done() {
			t.Errorf("%s: does not stay Bad", what)
		}
	}
}

// P8.1: Right, at each edge written out.
func TestRightEdges(t *testing.T) {
	for _, c := range []struct {
		node, inc int
		want      bool
	}{
		{0, 1, true}, {7, 1, true}, {3, 9, true}, {0, 2, true},
		{0, 1<<31 - 1, true}, {7, 1<<31 - 1, true}, {7, 1<<31 - 2, true},
		{-1, 1, false}, {8, 1, false}, {9, 1, false}, {64, 1, false},
		{math.MinInt, 1, false}, {math.MaxInt, 1, false}, {1 << 32, 1, false}, {-1 << 31, 1, false},
		{0, 0, false}, {7, 0, false}, {0, -1, false}, {7, -1, false},
		{0, 1 << 31, false}, {7, 1 << 31, false}, {0, 1<<32 + 1, false},
		{0, math.MaxInt, false}, {7, math.MaxInt, false}, {0, math.MinInt, false}, {0, math.MinInt + 1, false},
		{-1, 0, false}, {8, 0, false}, {8, 1 << 31, false}, {math.MinInt, math.MinInt, false}, {math.MaxInt, math.MaxInt, false},
	} {
		if got := Right(life(c.node, c.inc)); got != c.want {
			t.Errorf("Right of node %d's life %d: %v", c.node, c.inc, got)
		}
	}
}

// P8.1: Right, of every node beside every number.
func TestRight(t *testing.T) {
	for _, m := range members() {
		if got := Right(m); got != mayBe(m) {
			t.Errorf("Right of %v: %v", m, got)
		}
	}
}

// P8.1: Less, at each edge written out.
func TestLessEdges(t *testing.T) {
	for _, c := range []struct {
		what string
		a, b api.Member
		want bool
	}{
		{"the chapter's example", life(1, 9), life(2, 1), true},
		{"and the other way round", life(2, 1), life(1, 9), false},
		{"a lower node, the same life", life(0, 1), life(1, 1), true},
		{"a greater node, the same life", life(1, 1), life(0, 1), false},
		{"a lower node, a lower life", life(3, 1), life(4, 2), true},
		{"a greater node, a greater life", life(4, 2), life(3, 1), false},
		{"the same node, a lower life", life(2, 1), life(2, 2), true},
		{"the same node, a greater life", life(2, 2), life(2, 1), false},
		{"the same one", life(2, 2), life(2, 2), false},
		{"nobody and nobody", life(0, 0), life(0, 0), false},
		{"nobody and somebody", life(0, 0), life(0, 1), true},
		{"the first and the last one", life(0, 1), life(7, 1<<31-1), true},
		{"the ends of the type, by node", life(math.MinInt, 5), life(math.MaxInt, 5), true},
		{"and the other way round", life(math.MaxInt, 5), life(math.MinInt, 5), false},
		{"the ends of the type, by life", life(5, math.MinInt), life(5, math.MaxInt), true},
		{"and the other way round", life(5, math.MaxInt), life(5, math.MinInt), false},
		{"below 0", life(-2, 0), life(-1, 0), true},
		{"node ahead of life, at the ends", life(math.MinInt, math.MaxInt), life(math.MinInt+1, math.MinInt), true},
	} {
		if got := Less(c.a, c.b); got != c.want {
			t.Errorf("%s: %v ahead of %v: %v", c.what, c.a, c.b, got)
		}
	}
}

// P8.1: Less, of any two: who is ahead by the node and then by the life, and
// of unlike ones just one.
func TestLess(t *testing.T) {
	for _, a := range members() {
		for _, b := range members() {
			want := slices.Compare([]int{a.Node, a.Inc}, []int{b.Node, b.Inc}) < 0
			if Less(a, b) != want {
				t.Errorf("%v ahead of %v: %v", a, b, !want)
			}
			if a != b && Less(a, b) == Less(b, a) {
				t.Errorf("%v and %v: neither ahead, or both", a, b)
			}
		}
	}
}

// P8.1: Has, among none, one and many, at each place, and one that differs in
// Node or in Inc alone.
func TestHas(t *testing.T) {
	many := []api.Member{life(0, 4), life(1, 3), life(2, 1), life(5, 2), life(7, 1<<31-1)}
	for what, c := range map[string]struct {
		l    []api.Member
		m    api.Member
		want bool
	}{
		"among nil":                        {nil, life(1, 1), false},
		"among none":                       {[]api.Member{}, life(1, 1), false},
		"nobody among none":                {nil, life(0, 0), false},
		"among one":                        {[]api.Member{life(1, 1)}, life(1, 1), true},
		"another node among one":           {[]api.Member{life(1, 1)}, life(2, 1), false},
		"another life among one":           {[]api.Member{life(1, 1)}, life(1, 2), false},
		"turned about":                     {[]api.Member{life(1, 2)}, life(2, 1), false},
		"at the first place":               {many, life(0, 4), true},
		"at a middle place":                {many, life(2, 1), true},
		"at the last place":                {many, life(7, 1<<31-1), true},
		"the first one's node, another":    {many, life(3, 4), false},
		"the first one's life, another":    {many, life(0, 3), false},
		"a middle one's life, another":     {many, life(2, 2), false},
		"the last one's node, another":     {many, life(6, 1<<31-1), false},
		"the last one's life, another":     {many, life(7, 1<<31-2), false},
		"node of one, life of another":     {many, life(0, 1), false},
		"nobody among many":                {many, life(0, 0), false},
		"twice there":                      {[]api.Member{life(1, 1), life(1, 1)}, life(1, 1), true},
		"not in order":                     {[]api.Member{life(7, 1), life(0, 2), life(3, 3)}, life(0, 2), true},
		"nobody, who is there":             {[]api.Member{life(1, 1), life(0, 0)}, life(0, 0), true},
		"one that may not be, there":       {[]api.Member{life(-1, math.MaxInt)}, life(-1, math.MaxInt), true},
		"one that may not be, not there":   {[]api.Member{life(-1, math.MaxInt)}, life(-1, math.MinInt), false},
		"one whose lowest bits are there":  {[]api.Member{life(1, 1)}, life(1<<32+1, 1), false},
		"one whose lowest bits are theirs": {[]api.Member{life(1, 1)}, life(1, 1<<31+1), false},
	} {
		if got := Has(c.l, c.m); got != c.want {
			t.Errorf("%s: %v", what, got)
		}
	}
}

// P8.1: Has, of each one among all and among all others; rule 3: the list and
// what lies behind its end are as they were, and do not count.
func TestHasEach(t *testing.T) {
	all := members()
	whole := slices.Clone(all)
	for i, m := range all {
		if !Has(all, m) || !Has(all[i:], m) || !Has(all[:i+1], m) || !Has(all[i:i+1], m) {
			t.Errorf("%v isn't found", m)
		}
		if Has(all[:i], m) || Has(all[i+1:], m) {
			t.Errorf("%v is found where it isn't", m)
		}
	}
	if !slices.Equal(all, whole) {
		t.Error("Has has changed its list")
	}
}

// P8.1: None and Id, at each edge written out.
func TestIdEdges(t *testing.T) {
	for _, c := range []struct {
		what     string
		v        api.ViewId
		none, ok bool
	}{
		{"zero", id(0, 0, 0), true, true},
		{"Counter alone", id(1, 0, 0), false, false},
		{"Node alone", id(0, 1, 0), false, false},
		{"Inc alone", id(0, 0, 1), false, false},
		{"Counter alone zero", id(0, 1, 1), false, false},
		{"Node alone zero", id(1, 0, 1), false, true},
		{"Inc alone zero", id(1, 1, 0), false, false},
		{"an ordinary one", id(3, 2, 1), false, true},
		{"Counter below 0", id(-1, 2, 1), false, false},
		{"the least Counter", id(math.MinInt, 2, 1), false, false},
		{"Counter 2^31 less 1", id(1<<31-1, 2, 1), false, true},
		{"Counter 2^31", id(1<<31, 2, 1), false, false},
		{"Counter 2^32", id(1<<32, 0, 0), false, false},
		{"the greatest Counter", id(math.MaxInt, 2, 1), false, false},
		{"Node below 0", id(3, -1, 1), false, false},
		{"Node 7", id(3, 7, 1), false, true},
		{"Node 8", id(3, 8, 1), false, false},
		{"the least Node", id(3, math.MinInt, 1), false, false},
		{"the greatest Node", id(3, math.MaxInt, 1), false, false},
		{"Node below 0, else zero", id(0, -1, 0), false, false},
		{"Inc below 0", id(3, 2, -1), false, false},
		{"Inc 2^31 less 1", id(3, 2, 1<<31-1), false, true},
		{"Inc 2^31", id(3, 2, 1<<31), false, false},
		{"the least Inc", id(3, 2, math.MinInt), false, false},
		{"the greatest Inc", id(3, 2, math.MaxInt), false, false},
		{"all at their greatest", id(1<<31-1, 7, 1<<31-1), false, true},
		{"all at their least", id(1, 0, 1), false, true},
	} {
		if None(c.v) != c.none || Id(c.v) != c.ok {
			t.Errorf("%s: None is %v, Id is %v", c.what, None(c.v), Id(c.v))
		}
	}
}

// P8.1: None and Id, of every three numbers beside one another.
func TestId(t *testing.T) {
	for _, v := range ids() {
		if None(v) != (v.Counter == 0 && v.Node == 0 && v.Inc == 0) {
			t.Errorf("None of %v: %v", v, None(v))
		}
		if Id(v) != idMayBe(v) {
			t.Errorf("Id of %v: %v", v, Id(v))
		}
	}
}

// P8.1: Print and PrintId, written out.
func TestPrintEdges(t *testing.T) {
	for _, c := range []struct {
		got, want string
	}{
		{Print(life(2, 1)), "\x00\x00\x00\x02\x00\x00\x00\x01"},
		{Print(life(0, 0)), "\x00\x00\x00\x00\x00\x00\x00\x00"},
		{Print(life(7, 258)), "\x00\x00\x00\x07\x00\x00\x01\x02"},
		{Print(life(0, 1<<31-1)), "\x00\x00\x00\x00\x7f\xff\xff\xff"},
		{Print(life(8, 1<<31)), "\x00\x00\x00\x08\x00\x00\x00\x00"},
		{Print(life(-1, 1<<32+5)), "\x7f\xff\xff\xff\x00\x00\x00\x05"},
		{Print(life(math.MinInt, math.MaxInt)), "\x00\x00\x00\x00\x7f\xff\xff\xff"},
		{PrintId(id(3, 2, 1)), "\x00\x00\x00\x03\x00\x00\x00\x02\x00\x00\x00\x01"},
		{PrintId(id(0, 0, 0)), "\x00\x00\x00\x00\x00\x00\x00\x00\x00\x00\x00\x00"},
		{PrintId(id(0x01020304, 7, 1<<31-1)), "\x01\x02\x03\x04\x00\x00\x00\x07\x7f\xff\xff\xff"},
		{PrintId(id(1<<31, 8, -1)), "\x00\x00\x00\x00\x00\x00\x00\x08\x7f\xff\xff\xff"},
		{PrintId(id(math.MaxInt, math.MinInt+2, math.MinInt)), "\x7f\xff\xff\xff\x00\x00\x00\x02\x00\x00\x00\x00"},
	} {
		if c.got != c.want {
			t.Errorf("%q, want %q", c.got, c.want)
		}
	}
}

// P8.1: Print and PrintId against the library, of what may not be too.
func TestPrint(t *testing.T) {
	for _, m := range members() {
		if got := Print(m); got != memberBytes(m) {
			t.Errorf("%v: %q", m, got)
		}
	}
	for _, v := range ids() {
		if got := PrintId(v); got != idBytes(v) {
			t.Errorf("%v: %q", v, got)
		}
	}
}

// P8.2: Read, at each edge written out: what it answers, what is left, and
// that what is Bad stays so.
func TestReadEdges(t *testing.T) {
	for _, c := range []struct {
		what string
		s    string
		want api.Member
		left string
		ok   bool
	}{
		{"just one", "\x00\x00\x00\x02\x00\x00\x00\x01", life(2, 1), "", true},
		{"and more behind it", "\x00\x00\x00\x02\x00\x00\x01\x02more", life(2, 258), "more", true},
		{"node 0", "\x00\x00\x00\x00\x00\x00\x00\x01", life(0, 1), "", true},
		{"node 7", "\x00\x00\x00\x07\x00\x00\x00\x01", life(7, 1), "", true},
		{"node 8", "\x00\x00\x00\x08\x00\x00\x00\x01", life(0, 0), "\x00\x00\x00\x01", false},
		{"node 9", "\x00\x00\x00\x09\x00\x00\x00\x01", life(0, 0), "\x00\x00\x00\x01", false},
		{"node 258", "\x00\x00\x01\x02\x00\x00\x00\x01", life(0, 0), "\x00\x00\x00\x01", false},
		{"node 2^31 less 1", "\x7f\xff\xff\xff\x00\x00\x00\x01", life(0, 0), "\x00\x00\x00\x01", false},
		{"node 2^31 and 2", "\x80\x00\x00\x02\x00\x00\x00\x01", life(0, 0), "\x00\x00\x00\x01", false},
		{"life 0", "\x00\x00\x00\x02\x00\x00\x00\x00", life(0, 0), "", false},
		{"node 0's life 0", "\x00\x00\x00\x00\x00\x00\x00\x00", life(0, 0), "", false},
		{"life 2^31 less 1", "\x00\x00\x00\x02\x7f\xff\xff\xff", life(2, 1<<31-1), "", true},
		{"life 2^31", "\x00\x00\x00\x02\x80\x00\x00\x00", life(0, 0), "", false},
		{"life 2^31 and 1", "\x00\x00\x00\x02\x80\x00\x00\x01", life(0, 0), "", false},
		{"life 2^32 less 1", "\x00\x00\x00\x02\xff\xff\xff\xff", life(0, 0), "", false},
		{"nothing", "", life(0, 0), "", false},
		{"cut off in its node", "\x00\x00\x00", life(0, 0), "\x00\x00\x00", false},
		{"cut off behind its node", "\x00\x00\x00\x02", life(0, 0), "", false},
		{"cut off in its life", "\x00\x00\x00\x02\x00\x00\x00", life(0, 0), "\x00\x00\x00", false},
	} {
		l := &lay.Left{S: c.s}
		if got := Read(l); got != c.want {
			t.Errorf("%s: %v", c.what, got)
		}
		stands(t, c.what, l, lay.Left{S: c.left, Bad: !c.ok})
		if !c.ok {
			staysBad(t, c.what, l)
		}
	}
}

// P8.2: ReadId, at each edge written out.
func TestReadIdEdges(t *testing.T) {
	for _, c := range []struct {
		what string
		s    string
		want api.ViewId
		left string
		ok   bool
	}{
		{"just one", "\x00\x00\x00\x03\x00\x00\x00\x02\x00\x00\x00\x01", id(3, 2, 1), "", true},
		{"and more behind it", "\x00\x00\x01\x02\x00\x00\x00\x02\x00\x00\x00\x01more", id(258, 2, 1), "more", true},
		{"none", "\x00\x00\x00\x00\x00\x00\x00\x00\x00\x00\x00\x00", id(0, 0, 0), "", true},
		{"none, and more behind it", "\x00\x00\x00\x00\x00\x00\x00\x00\x00\x00\x00\x00\x00", id(0, 0, 0), "\x00", true},
		{"counter 0, a node", "\x00\x00\x00\x00\x00\x00\x00\x01\x00\x00\x00\x00", id(0, 0, 0), "", false},
		{"counter 0, a life", "\x00\x00\x00\x00\x00\x00\x00\x00\x00\x00\x00\x01", id(0, 0, 0), "", false},
		{"counter 0, a node and a life", "\x00\x00\x00\x00\x00\x00\x00\x02\x00\x00\x00\x01", id(0, 0, 0), "", false},
		{"a counter alone", "\x00\x00\x00\x03\x00\x00\x00\x00\x00\x00\x00\x00", id(0, 0, 0), "", false},
		{"life 0", "\x00\x00\x00\x03\x00\x00\x00\x02\x00\x00\x00\x00", id(0, 0, 0), "", false},
		{"node 0", "\x00\x00\x00\x01\x00\x00\x00\x00\x00\x00\x00\x01", id(1, 0, 1), "", true},
		{"node 7", "\x00\x00\x00\x03\x00\x00\x00\x07\x00\x00\x00\x01", id(3, 7, 1), "", true},
		{"node 8", "\x00\x00\x00\x03\x00\x00\x00\x08\x00\x00\x00\x01", id(0, 0, 0), "\x00\x00\x00\x01", false},
		{"node 2^31 and 2", "\x00\x00\x00\x03\x80\x00\x00\x02\x00\x00\x00\x01", id(0, 0, 0), "\x00\x00\x00\x01", false},
		{"all at their greatest", "\x7f\xff\xff\xff\x00\x00\x00\x07\x7f\xff\xff\xff", id(1<<31-1, 7, 1<<31-1), "", true},
		{"counter 2^31", "\x80\x00\x00\x00\x00\x00\x00\x02\x00\x00\x00\x01", id(0, 0, 0), "\x00\x00\x00\x02\x00\x00\x00\x01", false},
		{"counter 2^31, else zero", "\x80\x00\x00\x00\x00\x00\x00\x00\x00\x00\x00\x00", id(0, 0, 0), "\x00\x00\x00\x00\x00\x00\x00\x00", false},
		{"counter 2^31 and 3", "\x80\x00\x00\x03\x00\x00\x00\x02\x00\x00\x00\x01", id(0, 0, 0), "\x00\x00\x00\x02\x00\x00\x00\x01", false},
		{"life 2^31", "\x00\x00\x00\x03\x00\x00\x00\x02\x80\x00\x00\x00", id(0, 0, 0), "", false},
		{"life 2^31, else zero", "\x00\x00\x00\x00\x00\x00\x00\x00\x80\x00\x00\x00", id(0, 0, 0), "", false},
		{"life 2^32 less 1", "\x00\x00\x00\x03\x00\x00\x00\x02\xff\xff\xff\xff", id(0, 0, 0), "", false},
		{"nothing", "", id(0, 0, 0), "", false},
		{"none, cut off by one", "\x00\x00\x00\x00\x00\x00\x00\x00\x00\x00\x00", id(0, 0, 0), "\x00\x00\x00", false},
		{"cut off behind its counter", "\x00\x00\x00\x03", id(0, 0, 0), "", false},
		{"cut off behind its node", "\x00\x00\x00\x03\x00\x00\x00\x02", id(0, 0, 0), "", false},
		{"cut off in its life", "\x00\x00\x00\x03\x00\x00\x00\x02\x00\x00\x00", id(0, 0, 0), "\x00\x00\x00", false},
	} {
		l := &lay.Left{S: c.s}
		if got := ReadId(l); got != c.want {
			t.Errorf("%s: %v", c.what, got)
		}
		stands(t, c.what, l, lay.Left{S: c.left, Bad: !c.ok})
		if !c.ok {
			staysBad(t, c.what, l)
		}
	}
}

// P8.2: from what is Bad already nothing is read, and nothing taken.
func TestReadOfBad(t *testing.T) {
	for _, s := range []string{"", "\x00", memberBytes(life(2, 1)), idBytes(id(3, 2, 1)), idBytes(id(0, 0, 0)), idBytes(id(3, 2, 1)) + "more"} {
		reads(t, "Bad ahead", &lay.Left{S: s, Bad: true})
		readsId(t, "Bad ahead", &lay.Left{S: s, Bad: true})
		staysBad(t, "Bad ahead", &lay.Left{S: s, Bad: true})
	}
}

// P8.2: members and ids one behind the other, cut off at each place: read up
// to there, Bad from there on.
func TestOneBehindTheOther(t *testing.T) {
	whole := memberBytes(life(2, 1)) + idBytes(id(3, 2, 1)) + idBytes(id(0, 0, 0)) + memberBytes(life(7, 1<<31-1)) + memberBytes(life(0, 1)) + idBytes(id(1<<31-1, 0, 9))
	for count := range len(whole) + 1 {
		l := &lay.Left{S: whole[:count]}
		reads(t, "the first member", l)
		readsId(t, "the first id", l)
		readsId(t, "none", l)
		reads(t, "the second member", l)
		reads(t, "the third member", l)
		readsId(t, "the last id", l)
		if l.Done() != (count == len(whole)) {
			t.Errorf("cut off behind %d: Done is %v", count, l.Done())
		}
		if l.Bad {
			staysBad(t, "cut off", l)
		}
	}
}

// P8.2: Read and ReadId, of numbers at all edges beside one another, with more
// bytes behind them and with fewer.
func TestReadAll(t *testing.T) {
	raw := []uint32{0, 1, 2, 6, 7, 8, 9, 258, 1 << 24, 1<<31 - 2, 1<<31 - 1, 1 << 31, 1<<31 + 1, 1<<31 + 7, 1<<32 - 1}
	for _, a := range raw {
		for _, b := range raw {
			for _, c := range raw {
				s := four(a) + four(b) + four(c)
				reads(t, "more bytes", &lay.Left{S: s})
				readsId(t, "just as many", &lay.Left{S: s})
				readsId(t, "more bytes", &lay.Left{S: s + "a"})
				readsId(t, "fewer bytes", &lay.Left{S: s[:11]})
			}
			reads(t, "just as many", &lay.Left{S: four(a) + four(b)})
			reads(t, "fewer bytes", &lay.Left{S: (four(a) + four(b))[:7]})
		}
	}
}

// P8.3: there and back, alone: what may be is what it was, and what may not be
// isn't read, unless its lowest 31 bits may be another one's.
func TestThereAndBack(t *testing.T) {
	for _, m := range members() {
		l := &lay.Left{S: Print(m)}
		got := Read(l)
		if Right(m) && (got != m || !l.Done()) {
			t.Errorf("%v, there and back: %v", m, got)
		}
		if laid := life(int(low(m.Node)), int(low(m.Inc))); !Right(laid) && (got != life(0, 0) || !l.Bad) {
			t.Errorf("%v, which may not be, is read: %v", m, got)
		}
	}
	for _, v := range ids() {
		l := &lay.Left{S: PrintId(v)}
		got := ReadId(l)
		if Id(v) && (got != v || !l.Done()) {
			t.Errorf("%v, there and back: %v", v, got)
		}
		if laid := id(int(low(v.Counter)), int(low(v.Node)), int(low(v.Inc))); !Id(laid) && (got != id(0, 0, 0) || !l.Bad) {
			t.Errorf("%v, which may not be, is read: %v", v, got)
		}
	}
}

// P8.3: there and back, one behind the other.
func TestThereAndBackTogether(t *testing.T) {
	r := rand.New(rand.NewSource(21))
	var lives []api.Member
	var views []api.ViewId
	laid := ""
	for range 500 {
		m := life(r.Intn(8), 1+r.Intn(1<<31-1)>>r.Intn(31))
		v := id(1+r.Intn(1<<31-1)>>r.Intn(31), r.Intn(8), 1+r.Intn(1<<31-1)>>r.Intn(31))
		if r.Intn(4) == 0 {
			v = id(0, 0, 0)
		}
		lives, views = append(lives, m), append(views, v)
		laid += Print(m) + PrintId(v)
	}
	l := &lay.Left{S: laid}
	for i := range lives {
		if m, v := Read(l), ReadId(l); m != lives[i] || v != views[i] {
			t.Fatalf("%v and %v, there and back: %v and %v", lives[i], views[i], m, v)
		}
	}
	if !l.Done() {
		t.Errorf("not done: %d bytes left, Bad %v", len(l.S), l.Bad)
	}
}

// P8.3: of those that may be, no two have the same bytes.
func TestBytesAreTheirOwn(t *testing.T) {
	byBytes := map[string]api.Member{}
	for _, m := range members() {
		if !Right(m) {
			continue
		}
		if other, ok := byBytes[Print(m)]; ok {
			t.Errorf("%v and %v have the same bytes", m, other)
		}
		byBytes[Print(m)] = m
	}
	idByBytes := map[string]api.ViewId{}
	for _, v := range ids() {
		if !Id(v) {
			continue
		}
		if other, ok := idByBytes[PrintId(v)]; ok {
			t.Errorf("%v and %v have the same bytes", v, other)
		}
		idByBytes[PrintId(v)] = v
	}
}

// P1: no Left at all is none to read from, and no call panics at it.
func TestNoLeft(t *testing.T) {
	if m := Read(nil); m != life(0, 0) {
		t.Errorf("a member of no Left: %v", m)
	}
	if v := ReadId(nil); v != id(0, 0, 0) {
		t.Errorf("an id of no Left: %v", v)
	}
}

// Rules 4 and 6: the same arguments come to the same, in whatever goroutine.
func TestManyAtOnce(t *testing.T) {
	list := []api.Member{life(0, 1), life(2, 1), life(7, 9)}
	whole := memberBytes(list[1]) + idBytes(id(3, 2, 1))
	var workers sync.WaitGroup
	for range 8 {
		workers.Go(func() {
			for range 50 {
				l := &lay.Left{S: whole}
				m, v := Read(l), ReadId(l)
				if !Right(m) || !Id(v) || None(v) || !Has(list, m) || !Less(list[0], m) || Print(m)+PrintId(v) != whole || !l.Done() {
					t.Error("at once: not the same")
				}
			}
		})
	}
	workers.Wait()
}

// P1: no call panics, at any arguments; each answer is right at all of them.
func FuzzAll(f *testing.F) {
	for _, n := range numbers() {
		f.Add(n, 2, 1, memberBytes(life(2, n))+idBytes(id(n, 2, 1)), false)
		f.Add(1, n, n, idBytes(id(n, 2, 1))+idBytes(id(0, 0, n)), n%2 == 0)
	}
	for _, s := range []string{"", "\x00", "\x00\x00\x00\x07\x7f\xff\xff", "\x80\x00\x00\x00\x00\x00\x00\x00\x00\x00\x00\x00"} {
		f.Add(1, 2, 3, s, false)
		f.Add(math.MaxInt, math.MinInt, 0, s, true)
	}
	f.Fuzz(func(t *testing.T, a, b, c int, s string, bad bool) {
		m, other, v := life(b, c), life(a, b), id(a, b, c)
		if Right(m) != mayBe(m) || Id(v) != idMayBe(v) || None(v) != (v == id(0, 0, 0)) {
			t.Errorf("of %v: Right is %v, Id %v, None %v", v, Right(m), Id(v), None(v))
		}
		if Less(m, other) != (b < a || b == a && c < b) || !Has([]api.Member{other, m}, m) || Has([]api.Member{other}, m) != (a == b && b == c) {
			t.Errorf("%v and %v: Less is %v, Has is %v", m, other, Less(m, other), Has([]api.Member{other}, m))
		}
		if Print(m) != memberBytes(m) || PrintId(v) != idBytes(v) {
			t.Errorf("the bytes of %v: %q, %q", v, Print(m), PrintId(v))
		}
		memberFirst, idFirst := &lay.Left{S: s, Bad: bad}, &lay.Left{S: s, Bad: bad}
		reads(t, "a member first", memberFirst)
		readsId(t, "an id behind it", memberFirst)
		readsId(t, "an id first", idFirst)
		reads(t, "a member behind it", idFirst)
		l := &lay.Left{S: Print(m) + PrintId(v)}
		if Right(m) && Id(v) && (Read(l) != m || ReadId(l) != v || !l.Done()) {
			t.Errorf("%v and %v are not there and back", m, v)
		}
	})
}
