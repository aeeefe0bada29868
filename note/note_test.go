package note

import (
	"encoding/binary"
	"encoding/hex"
	"math"
	"math/big"
	"math/rand"
	"slices"
	"strings"
	"sync"
	"testing"

	"lodge/api"
)

func life(node, inc int) api.Member { return api.Member{Node: node, Inc: inc} }

func id(counter, node, inc int) api.ViewId {
	return api.ViewId{Counter: counter, Node: node, Inc: inc}
}

func inner() api.Spot { return api.Spot{} }

func leaf(node, inc int) api.Spot { return api.Spot{Leaf: true, Who: life(node, inc)} }

func stream(from api.Member, texts ...string) api.Stream {
	return api.Stream{From: from, Texts: texts}
}

// grown is a tree of that many members, each beside all that follow; 3's fifth
// life is the last one.
func grown(leaves int) []api.Spot {
	var l []api.Spot
	for i := 1; i < leaves; i++ {
		l = append(l, inner(), leaf(i%8, 100+i))
	}
	return append(l, leaf(3, 5))
}

// full is what a member tells that has something of each kind to tell.
func full() api.Flush {
	return api.Flush{
		Who:     life(3, 5),
		Old:     id(9, 2, 4),
		Streams: []api.Stream{stream(life(0, 1), "a", "bc"), stream(life(3, 5), ""), stream(life(6, 2), "d")},
		Last:    api.Last{Id: id(7, 3, 4), Tree: []api.Spot{inner(), inner(), leaf(1, 1), leaf(3, 5), leaf(0, 2)}},
		Want:    true,
	}
}

// bare is what a member tells that was in no view.
func bare(node, inc int) api.Flush { return api.Flush{Who: life(node, inc)} }

// without is what full tells but its last key.
func without() api.Flush {
	f := full()
	f.Last = api.Last{}
	return f
}

// lone is what full tells but what was delivered.
func lone() api.Flush {
	f := full()
	f.Streams = nil
	return f
}

// kinds are notes of all kinds that may be.
func kinds() []api.Note {
	return []api.Note{
		{Kind: api.NoteAsk},
		{Kind: api.NotePropose, Id: id(258, 7, 1), Nodes: []int{0, 3, 7}},
		{Kind: api.NoteLate, Id: id(258, 7, 1), Seen: 1 << 20},
		{Kind: api.NoteFlush, Id: id(258, 7, 1), Flushes: []api.Flush{full()}},
		{Kind: api.NoteInstall, Id: id(258, 7, 1), Flushes: []api.Flush{bare(1, 9), full(), bare(4, 1)}},
		{Kind: api.NoteData, Id: id(258, 7, 1), Seq: 2, Text: "b\x00c"},
	}
}

// small are notes with nothing in the lists that may be empty.
func small() []api.Note {
	return []api.Note{
		{Kind: api.NotePropose, Id: id(1, 0, 1)},
		{Kind: api.NoteLate, Id: id(1, 0, 1)},
		{Kind: api.NoteFlush, Id: id(1, 0, 1), Flushes: []api.Flush{bare(0, 1)}},
		{Kind: api.NoteInstall, Id: id(1, 0, 1)},
		{Kind: api.NoteData, Id: id(1, 0, 1), Seq: 1},
	}
}

// within tells whether n is least to most.
func within(n, least, most int) bool { return n >= least && n <= most }

// counts tells whether n is 1 to below 2^31, by math/big's means alone.
func counts(n int) bool {
	wide := big.NewInt(int64(n))
	return wide.Sign() > 0 && wide.BitLen() <= 31
}

func memberMayBe(m api.Member) bool {
	return slices.Contains([]int{0, 1, 2, 3, 4, 5, 6, 7}, m.Node) && counts(m.Inc)
}

func idMayBe(v api.ViewId) bool {
	return v == id(0, 0, 0) || counts(v.Counter) && memberMayBe(life(v.Node, v.Inc))
}

// part tells how many spots l begins with that are one part; 0, if it doesn't
// end.
func part(l []api.Spot) int {
	if len(l) == 0 {
		return 0
	}
	if l[0].Leaf {
		return 1
	}
	left := part(l[1:])
	if left == 0 {
		return 0
	}
	right := part(l[1+left:])
	if right == 0 {
		return 0
	}
	return 1 + left + right
}

// treeMayBe is layer 9's rule for a tree, who are the members in it.
func treeMayBe(l []api.Spot, who map[api.Member]int) bool {
	if len(l) > 128 {
		return false
	}
	leaves := 0
	for _, spot := range l {
		if !spot.Leaf && spot.Who != life(0, 0) || spot.Leaf && !memberMayBe(spot.Who) {
			return false
		}
		if spot.Leaf {
			leaves++
			who[spot.Who]++
		}
	}
	return leaves <= 64 && len(who) == leaves && part(l) == len(l)
}

// flushMayBe is the chapter's rule for what a member tells, word by word.
func flushMayBe(f api.Flush) bool {
	who := map[api.Member]int{}
	if !memberMayBe(f.Who) || !idMayBe(f.Old) || !idMayBe(f.Last.Id) || !treeMayBe(f.Last.Tree, who) {
		return false
	}
	if (len(f.Last.Tree) == 0) != (f.Last.Id == id(0, 0, 0)) || len(f.Last.Tree) > 0 && who[f.Who] == 0 {
		return false
	}
	if len(f.Streams) > 8 || f.Old == id(0, 0, 0) && len(f.Streams) > 0 {
		return false
	}
	for i, s := range f.Streams {
		if !memberMayBe(s.From) || !within(len(s.Texts), 1, 1000) {
			return false
		}
		if i > 0 && slices.Compare([]int{f.Streams[i-1].From.Node, f.Streams[i-1].From.Inc}, []int{s.From.Node, s.From.Inc}) >= 0 {
			return false
		}
		for _, text := range s.Texts {
			if len(text) > 1000 {
				return false
			}
		}
	}
	return true
}

// mayBe is the chapter's rule for a note, word by word.
func mayBe(n api.Note) bool {
	if !within(n.Kind, 1, 6) || !idMayBe(n.Id) || (n.Id == id(0, 0, 0)) != (n.Kind == 1) {
		return false
	}
	if n.Seen != 0 && (n.Kind != 3 || !counts(n.Seen)) {
		return false
	}
	for i, node := range n.Nodes {
		if n.Kind != 2 || !within(node, 0, 7) || i > 0 && n.Nodes[i-1] >= node {
			return false
		}
	}
	if n.Kind == 4 && len(n.Flushes) != 1 || len(n.Flushes) > 8 {
		return false
	}
	for i, f := range n.Flushes {
		if n.Kind != 4 && n.Kind != 5 || !flushMayBe(f) || i > 0 && n.Flushes[i-1].Who.Node >= f.Who.Node {
			return false
		}
	}
	if n.Kind != 6 {
		return n.Seq == 0 && len(n.Text) == 0
	}
	return within(n.Seq, 1, 1000) && len(n.Text) <= 1000
}

// four are a number's bytes, by the library's means alone: 32 bits, so that one
// which may not be is spelled too.
func four(n int) string { return string(binary.BigEndian.AppendUint32(nil, uint32(n))) }

func textBytes(text string) string { return four(len(text)) + text }

func memberBytes(m api.Member) string { return four(m.Node) + four(m.Inc) }

func idBytes(v api.ViewId) string { return four(v.Counter) + four(v.Node) + four(v.Inc) }

// listBytes are how many there are, and the bytes of each.
func listBytes[T any](l []T, one func(T) string) string {
	parts := []string{four(len(l))}
	for _, t := range l {
		parts = append(parts, one(t))
	}
	return strings.Join(parts, "")
}

func streamBytes(s api.Stream) string { return memberBytes(s.From) + listBytes(s.Texts, textBytes) }

func spotBytes(spot api.Spot) string {
	if spot.Leaf {
		return four(1) + memberBytes(spot.Who)
	}
	return four(0)
}

func flushBytes(f api.Flush) string {
	out := memberBytes(f.Who) + idBytes(f.Old) + listBytes(f.Streams, streamBytes) + idBytes(f.Last.Id) + listBytes(f.Last.Tree, spotBytes)
	if f.Want {
		return out + four(1)
	}
	return out + four(0)
}

// noteBytes are a note's bytes, of what may not be too.
func noteBytes(n api.Note) string {
	return four(n.Kind) + idBytes(n.Id) + four(n.Seen) + listBytes(n.Nodes, four) + listBytes(n.Flushes, flushBytes) + four(n.Seq) + textBytes(n.Text)
}

// reader takes bytes for what they may spell, and asks for no bound: whether
// they spell it shows by the bytes of what was read. Short tells that there
// were too few.
type reader struct {
	s     string
	short bool
}

func (r *reader) take(count int) string {
	if count > len(r.s) {
		r.short, r.s = true, ""
		return ""
	}
	taken := r.s[:count]
	r.s = r.s[count:]
	return taken
}

func (r *reader) number() int {
	raw := r.take(4)
	if r.short {
		return 0
	}
	return int(binary.BigEndian.Uint32([]byte(raw)))
}

// each reads as many as a number says; no more than there are bytes.
func (r *reader) each(one func()) {
	for count := r.number(); count > 0 && !r.short; count-- {
		one()
	}
}

func (r *reader) member() api.Member {
	node := r.number()
	return life(node, r.number())
}

func (r *reader) id() api.ViewId {
	counter := r.number()
	m := r.member()
	return id(counter, m.Node, m.Inc)
}

func (r *reader) flush() api.Flush {
	f := api.Flush{Who: r.member()}
	f.Old = r.id()
	r.each(func() {
		s := api.Stream{From: r.member()}
		r.each(func() { s.Texts = append(s.Texts, r.take(r.number())) })
		f.Streams = append(f.Streams, s)
	})
	f.Last.Id = r.id()
	r.each(func() {
		if r.number() == 0 {
			f.Last.Tree = append(f.Last.Tree, inner())
		} else {
			f.Last.Tree = append(f.Last.Tree, api.Spot{Leaf: true, Who: r.member()})
		}
	})
	f.Want = r.number() != 0
	return f
}

// spelled is the note that may be and whose bytes s is, and true.
func spelled(s string) (api.Note, bool) {
	r := &reader{s: s}
	n := api.Note{Kind: r.number()}
	n.Id = r.id()
	n.Seen = r.number()
	r.each(func() { n.Nodes = append(n.Nodes, r.number()) })
	r.each(func() { n.Flushes = append(n.Flushes, r.flush()) })
	n.Seq = r.number()
	n.Text = r.take(r.number())
	if r.short || len(s) > 60000 || !mayBe(n) || noteBytes(n) != s {
		return api.Note{}, false
	}
	return n, true
}

func sameStream(a, b api.Stream) bool { return a.From == b.From && slices.Equal(a.Texts, b.Texts) }

func sameFlush(a, b api.Flush) bool {
	return a.Who == b.Who && a.Old == b.Old && a.Want == b.Want && a.Last.Id == b.Last.Id &&
		slices.Equal(a.Last.Tree, b.Last.Tree) && slices.EqualFunc(a.Streams, b.Streams, sameStream)
}

// sameNote holds notes against each other; a list that holds nothing may be nil
// or empty.
func sameNote(a, b api.Note) bool {
	return a.Kind == b.Kind && a.Id == b.Id && a.Seen == b.Seen && a.Seq == b.Seq && a.Text == b.Text &&
		slices.Equal(a.Nodes, b.Nodes) && slices.EqualFunc(a.Flushes, b.Flushes, sameFlush)
}

// short is what of a text is told where a test fails.
func short(s string) string {
	if len(s) > 300 {
		return s[:300] + " ..."
	}
	return s
}

// isNone tells where bytes are read that are no note's.
func isNone(t *testing.T, what, s string) {
	t.Helper()
	if n, ok := Parse(s); ok || !sameNote(n, api.Note{}) {
		t.Errorf("%s: %q (%d bytes) is read: %v, of kind %d", what, short(s), len(s), ok, n.Kind)
	}
}

// isRead tells where bytes aren't read as the note that they spell.
func isRead(t *testing.T, what, s string, want api.Note) {
	t.Helper()
	if n, ok := Parse(s); !ok || !sameNote(n, want) {
		t.Errorf("%s: %q (%d bytes) is not read, or not as it was: %v, of kind %d", what, short(s), len(s), ok, n.Kind)
	}
}

// parses tells where Parse reads otherwise than it must.
func parses(t *testing.T, what, s string) {
	t.Helper()
	want, ok := spelled(s)
	if ok {
		isRead(t, what, s, want)
	} else {
		isNone(t, what, s)
	}
}

// stands tells where Right, Print or Parse of a note, or of its bytes, isn't
// what it must be, want whether it may be.
func stands(t *testing.T, what string, n api.Note, want bool) {
	t.Helper()
	if mayBe(n) != want {
		t.Fatalf("%s: the test itself is wrong", what)
	}
	if Right(n) != want {
		t.Errorf("%s: Right is %v", what, !want)
	}
	s := noteBytes(n)
	if want && Print(n) != s {
		t.Errorf("%s: printed as %q, want %q", what, short(Print(n)), short(s))
	}
	if want && len(s) <= 60000 {
		isRead(t, what, s, n)
	} else {
		parses(t, what, s)
	}
}

// standsFlush tells where Flush isn't what it must be, or Right, Print or Parse
// of a note that has it.
func standsFlush(t *testing.T, what string, f api.Flush, want bool) {
	t.Helper()
	if flushMayBe(f) != want {
		t.Fatalf("%s: the test itself is wrong", what)
	}
	if Flush(f) != want {
		t.Errorf("%s: Flush is %v", what, !want)
	}
	for _, kind := range []int{api.NoteFlush, api.NoteInstall} {
		stands(t, what+", alone", api.Note{Kind: kind, Id: id(1, 0, 1), Flushes: []api.Flush{f}}, want)
	}
	if f.Who.Node > 0 {
		stands(t, what+", as the last one", api.Note{Kind: api.NoteInstall, Id: id(1, 0, 1), Flushes: []api.Flush{bare(0, 1), f}}, want)
	}
	if f.Who.Node < 7 {
		stands(t, what+", as the first one", api.Note{Kind: api.NoteInstall, Id: id(1, 0, 1), Flushes: []api.Flush{f, bare(7, 1)}}, want)
	}
}

// P16.1: Flush, of Who, at each edge: alone, and as the one that has a key.
func TestFlushWho(t *testing.T) {
	for _, c := range []struct {
		who  api.Member
		want bool
	}{
		{life(0, 1), true}, {life(7, 1), true}, {life(3, 5), true}, {life(0, 1<<31-1), true}, {life(7, 1<<31-1), true},
		{life(-1, 1), false}, {life(8, 1), false}, {life(9, 1), false}, {life(math.MinInt, 1), false}, {life(math.MaxInt, 1), false},
		{life(1<<32, 1), false}, {life(1<<31, 1), false}, {life(0, 0), false}, {life(3, 0), false}, {life(3, -1), false},
		{life(3, 1<<31), false}, {life(3, 1<<31+1), false}, {life(3, 1<<32+1), false}, {life(3, math.MaxInt), false}, {life(3, math.MinInt), false},
	} {
		standsFlush(t, "who", api.Flush{Who: c.who}, c.want)
		standsFlush(t, "who, and wants", api.Flush{Who: c.who, Want: true}, c.want)
		f := without()
		f.Who = c.who
		standsFlush(t, "who, with what was delivered", f, c.want)
		f.Last = api.Last{Id: id(7, 3, 4), Tree: []api.Spot{{Leaf: true, Who: c.who}}}
		standsFlush(t, "who, with a key", f, c.want)
	}
}

// ids are ids at each edge, and whether they may be; none is not among them.
func ids() map[api.ViewId]bool {
	return map[api.ViewId]bool{
		id(1, 0, 1): true, id(1<<31-1, 7, 1<<31-1): true, id(1, 7, 1): true, id(258, 0, 9): true, id(1<<31-1, 0, 1): true, id(1, 0, 1<<31-1): true,
		id(0, 0, 1): false, id(0, 1, 0): false, id(1, 0, 0): false, id(0, 7, 1): false, id(1, 7, 0): false, id(-1, 0, 1): false, id(1, -1, 1): false, id(1, 0, -1): false,
		id(1<<31, 0, 1): false, id(1, 8, 1): false, id(1, 0, 1<<31): false, id(1<<31+1, 0, 1): false, id(1<<32+1, 0, 1): false, id(1, 1<<32, 1): false, id(1, 0, 1<<32+1): false,
		id(math.MaxInt, 0, 1): false, id(math.MinInt, 0, 1): false, id(1, math.MaxInt, 1): false, id(1, math.MinInt, 1): false, id(1, 0, math.MaxInt): false, id(1, 0, math.MinInt): false,
		id(1<<31, 0, 0): false, id(0, 0, 1<<31): false, id(0, 1<<31, 0): false, id(1<<32, 0, 0): false,
	}
}

// P16.1: Flush, of Old: any id that may be, and none if nothing was delivered.
func TestFlushOld(t *testing.T) {
	for v, want := range ids() {
		for what, f := range map[string]api.Flush{"full": full(), "without a key": without(), "without what was delivered": lone(), "bare": bare(0, 1)} {
			f.Old = v
			standsFlush(t, "old, "+what, f, want)
		}
	}
	for what, c := range map[string]struct {
		streams []api.Stream
		want    bool
	}{
		"nil":               {nil, true},
		"empty":             {[]api.Stream{}, true},
		"one stream":        {[]api.Stream{stream(life(3, 5), "a")}, false},
		"one of no bytes":   {[]api.Stream{stream(life(3, 5), "")}, false},
		"one of no texts":   {[]api.Stream{stream(life(3, 5))}, false},
		"one of nobody":     {[]api.Stream{{}}, false},
		"three":             {full().Streams, false},
		"nine":              {make([]api.Stream, 9), false},
		"as many as may be": {eight(), false},
	} {
		f := full()
		f.Old, f.Streams = id(0, 0, 0), c.streams
		standsFlush(t, "none, "+what, f, c.want)
		f.Last = api.Last{}
		standsFlush(t, "none, no key, "+what, f, c.want)
	}
}

// P16.1: Flush, of Last.Id: any id that may be, with a tree; none without.
func TestFlushLastId(t *testing.T) {
	for v, want := range ids() {
		f := full()
		f.Last.Id = v
		standsFlush(t, "last id", f, want)
		f.Old, f.Streams = id(0, 0, 0), nil
		standsFlush(t, "last id, of no view", f, want)
		for _, nothing := range [][]api.Spot{nil, {}} {
			f.Last.Tree = nothing
			standsFlush(t, "last id, of no tree", f, false)
		}
	}
	f := full()
	f.Last.Id = id(0, 0, 0)
	standsFlush(t, "none, and a tree", f, false)
	f.Last.Tree = []api.Spot{leaf(3, 5)}
	standsFlush(t, "none, and a leaf", f, false)
	f.Last.Tree = []api.Spot{inner()}
	standsFlush(t, "none, and an inner spot", f, false)
	for _, nothing := range [][]api.Spot{nil, {}} {
		f.Last.Tree = nothing
		standsFlush(t, "none, and nothing", f, true)
	}
}

// P16.1: Flush, of Last.Tree: which may be, and that 3's fifth life is in it.
func TestFlushTree(t *testing.T) {
	for what, c := range map[string]struct {
		l    []api.Spot
		want bool
	}{
		"it alone":                    {[]api.Spot{leaf(3, 5)}, true},
		"to the left":                 {[]api.Spot{inner(), leaf(3, 5), leaf(4, 1)}, true},
		"to the right":                {[]api.Spot{inner(), leaf(4, 1), leaf(3, 5)}, true},
		"in the middle":               {[]api.Spot{inner(), inner(), leaf(0, 1), leaf(3, 5), leaf(4, 1)}, true},
		"two lives of it":             {[]api.Spot{inner(), leaf(3, 4), leaf(3, 5)}, true},
		"members at their ends":       {[]api.Spot{inner(), leaf(7, 1<<31-1), inner(), leaf(0, 1), leaf(3, 5)}, true},
		"two members":                 {grown(2), true},
		"63 members":                  {grown(63), true},
		"64 members":                  {grown(64), true},
		"65 members":                  {grown(65), false},
		"66 members":                  {grown(66), false},
		"1000 members":                {grown(1000), false},
		"another one alone":           {[]api.Spot{leaf(4, 5)}, false},
		"another life alone":          {[]api.Spot{leaf(3, 4)}, false},
		"without it":                  {[]api.Spot{inner(), leaf(3, 4), leaf(4, 5)}, false},
		"64 members without it":       {append(grown(64)[:126], leaf(2, 1)), false},
		"it twice":                    {[]api.Spot{inner(), leaf(3, 5), leaf(3, 5)}, false},
		"another one twice":           {[]api.Spot{inner(), leaf(4, 1), inner(), leaf(3, 5), leaf(4, 1)}, false},
		"an inner spot alone":         {[]api.Spot{inner()}, false},
		"a half missing":              {[]api.Spot{inner(), leaf(3, 5)}, false},
		"cut off":                     {grown(64)[:126], false},
		"two trees":                   {[]api.Spot{leaf(3, 5), leaf(4, 1)}, false},
		"an inner spot behind":        {[]api.Spot{leaf(3, 5), inner()}, false},
		"one leaf more":               {append(grown(64), leaf(2, 1)), false},
		"halves ahead":                {[]api.Spot{leaf(3, 5), leaf(4, 1), inner()}, false},
		"somebody's inner spot":       {[]api.Spot{{Who: life(1, 1)}, leaf(4, 1), leaf(3, 5)}, false},
		"its own inner spot":          {[]api.Spot{{Who: life(3, 5)}, leaf(4, 1), leaf(2, 5)}, false},
		"an inner spot's node":        {[]api.Spot{{Who: life(1, 0)}, leaf(4, 1), leaf(3, 5)}, false},
		"an inner spot's life":        {[]api.Spot{inner(), leaf(4, 1), {Who: life(0, 1)}, leaf(2, 1), leaf(3, 5)}, false},
		"nobody's leaf":               {[]api.Spot{inner(), leaf(0, 0), leaf(3, 5)}, false},
		"node -1":                     {[]api.Spot{inner(), leaf(-1, 1), leaf(3, 5)}, false},
		"node 0":                      {[]api.Spot{inner(), leaf(0, 1), leaf(3, 5)}, true},
		"node 7":                      {[]api.Spot{inner(), leaf(7, 1), leaf(3, 5)}, true},
		"node 8":                      {[]api.Spot{inner(), leaf(8, 1), leaf(3, 5)}, false},
		"life 0":                      {[]api.Spot{inner(), leaf(3, 5), leaf(4, 0)}, false},
		"life 1":                      {[]api.Spot{inner(), leaf(3, 5), leaf(4, 1)}, true},
		"life 2^31 less 1":            {[]api.Spot{inner(), leaf(3, 5), leaf(4, 1<<31-1)}, true},
		"life 2^31":                   {[]api.Spot{inner(), leaf(3, 5), leaf(4, 1<<31)}, false},
		"life -1":                     {[]api.Spot{inner(), leaf(3, 5), leaf(4, -1)}, false},
		"the ends of the type":        {[]api.Spot{inner(), leaf(3, 5), leaf(math.MaxInt, math.MinInt)}, false},
		"one of lowest bits as it":    {[]api.Spot{leaf(3, 1<<32+5)}, false},
		"128 inner spots":             {make([]api.Spot, 128), false},
		"65536 inner spots":           {make([]api.Spot, 1<<16), false},
		"many leaves":                 {slices.Repeat([]api.Spot{leaf(3, 5)}, 1<<16), false},
		"128 spots":                   {append(grown(64), inner()), false},
		"129 spots, it and 128 inner": {append(make([]api.Spot, 128), leaf(3, 5)), false},
	} {
		f := full()
		f.Last.Tree = c.l
		standsFlush(t, what, f, c.want)
		f.Old, f.Streams = id(0, 0, 0), nil
		standsFlush(t, what+", of no view", f, c.want)
		f.Last.Id = id(0, 0, 0)
		standsFlush(t, what+", of no key", f, false)
	}
}

// eight are as many streams as may be.
func eight() []api.Stream {
	var l []api.Stream
	for node := range 8 {
		l = append(l, stream(life(node, 8-node), "a"))
	}
	return l
}

// of are streams of one text of these members.
func of(who ...api.Member) []api.Stream {
	var l []api.Stream
	for _, m := range who {
		l = append(l, stream(m, "a"))
	}
	return l
}

// P16.1: Flush, of how many Streams, and of whom.
func TestFlushStreams(t *testing.T) {
	for what, c := range map[string]struct {
		l    []api.Stream
		want bool
	}{
		"nil":                         {nil, true},
		"empty":                       {[]api.Stream{}, true},
		"one, of another":             {of(life(7, 1)), true},
		"seven":                       {eight()[:7], true},
		"eight":                       {eight(), true},
		"nine":                        {append(eight(), stream(life(7, 2), "a")), false},
		"nine, the first ones alike":  {append(of(life(0, 1)), eight()...), false},
		"many":                        {slices.Repeat(of(life(3, 5)), 1<<16), false},
		"eight lives of one":          {of(life(2, 1), life(2, 2), life(2, 3), life(2, 4), life(2, 5), life(2, 6), life(2, 7), life(2, 8)), true},
		"lives rise":                  {of(life(2, 1), life(2, 2)), true},
		"lives are the same":          {of(life(2, 1), life(2, 1)), false},
		"lives fall":                  {of(life(2, 2), life(2, 1)), false},
		"nodes rise, lives fall":      {of(life(2, 9), life(3, 1)), true},
		"nodes rise, the same life":   {of(life(2, 1), life(3, 1)), true},
		"nodes fall, the same life":   {of(life(3, 1), life(2, 1)), false},
		"nodes fall, lives rise":      {of(life(3, 1), life(2, 9)), false},
		"nodes fall at the end":       {of(life(0, 1), life(4, 1), life(2, 1)), false},
		"nodes fall at the beginning": {of(life(4, 1), life(2, 1), life(5, 1)), false},
		"the first and last alike":    {of(life(4, 1), life(5, 1), life(4, 1)), false},
		"the last two alike":          {of(life(1, 1), life(4, 1), life(4, 1)), false},
		"from their ends":             {of(life(0, 1), life(0, 1<<31-1), life(7, 1), life(7, 1<<31-1)), true},
		"node -1":                     {of(life(-1, 1), life(2, 1)), false},
		"node 0":                      {of(life(0, 1), life(2, 1)), true},
		"node 7":                      {of(life(2, 1), life(7, 1)), true},
		"node 8":                      {of(life(2, 1), life(8, 1)), false},
		"node 8 alone":                {of(life(8, 1)), false},
		"life 0":                      {of(life(2, 0), life(2, 1)), false},
		"life 0 alone":                {of(life(2, 0)), false},
		"life -1":                     {of(life(2, -1)), false},
		"life 2^31":                   {of(life(2, 1), life(2, 1<<31)), false},
		"life 2^31 alone":             {of(life(2, 1<<31)), false},
		"nobody":                      {of(life(0, 0)), false},
		"nobody, and somebody":        {of(life(0, 0), life(0, 1)), false},
		"one in the middle":           {of(life(0, 1), life(3, 1<<31), life(5, 1)), false},
		"the ends of the type":        {of(life(math.MinInt, math.MaxInt), life(math.MaxInt, math.MinInt)), false},
	} {
		for _, f := range []api.Flush{full(), without()} {
			f.Streams = c.l
			standsFlush(t, what, f, c.want)
		}
	}
}

// P16.1: Flush, of how many Texts, and how long, of each stream.
func TestFlushTexts(t *testing.T) {
	thousand := strings.Repeat("\xff", 1000)
	for what, c := range map[string]struct {
		l    []string
		want bool
	}{
		"nil":                       {nil, false},
		"empty":                     {[]string{}, false},
		"one of no bytes":           {[]string{""}, true},
		"two":                       {[]string{"a", "b"}, true},
		"the same":                  {[]string{"a", "a", "a"}, true},
		"not in order":              {[]string{"b", "", "a"}, true},
		"no runes":                  {[]string{"\x80\x00\xff", "\xc3"}, true},
		"999":                       {slices.Repeat([]string{"a"}, 999), true},
		"1000":                      {slices.Repeat([]string{"a"}, 1000), true},
		"1001":                      {slices.Repeat([]string{"a"}, 1001), false},
		"1000 of no bytes":          {make([]string, 1000), true},
		"1001 of no bytes":          {make([]string, 1001), false},
		"65536 of no bytes":         {make([]string, 1<<16), false},
		"999 bytes":                 {[]string{thousand[1:]}, true},
		"1000 bytes":                {[]string{thousand}, true},
		"1001 bytes":                {[]string{thousand + "a"}, false},
		"1000 bytes of 500 runes":   {[]string{strings.Repeat("\u00e9", 500)}, true},
		"2000 bytes of 1000 runes":  {[]string{strings.Repeat("\u00e9", 1000)}, false},
		"65536 bytes":               {[]string{strings.Repeat("a", 1<<16)}, false},
		"1000 bytes as the last":    {[]string{"a", "", thousand}, true},
		"1001 bytes as the last":    {[]string{"a", "", thousand + "a"}, false},
		"1001 bytes as the first":   {[]string{thousand + "a", "a"}, false},
		"1001 bytes in the middle":  {[]string{"", thousand + "a", "a"}, false},
		"1001 bytes of 1000":        {append(slices.Repeat([]string{"a"}, 999), thousand+"a"), false},
		"50 of 1000 bytes":          {slices.Repeat([]string{thousand}, 50), true},
		"more than a mail may have": {slices.Repeat([]string{thousand}, 60), true},
		"as much as may be":         {slices.Repeat([]string{thousand}, 1000), true},
	} {
		for at := range 3 {
			f := full()
			f.Streams[at].Texts = c.l
			standsFlush(t, what, f, c.want)
		}
		f := full()
		f.Streams = []api.Stream{{From: life(2, 1), Texts: c.l}}
		standsFlush(t, what+", one stream", f, c.want)
	}
}

// given are notes of each kind: what may be in a field, and what just may not.
func given() []struct {
	what string
	n    api.Note
	want bool
} {
	var all []struct {
		what string
		n    api.Note
		want bool
	}
	thousand := strings.Repeat("\x00", 1000)
	for _, base := range kinds() {
		kind := base.Kind
		add := func(what string, want bool, change func(*api.Note)) {
			n := base
			change(&n)
			all = append(all, struct {
				what string
				n    api.Note
				want bool
			}{what, n, want})
		}
		add("as it is", true, func(n *api.Note) {})
		for v, want := range ids() {
			add("an id", want && kind != api.NoteAsk, func(n *api.Note) { n.Id = v })
		}
		add("no id", kind == api.NoteAsk, func(n *api.Note) { n.Id = id(0, 0, 0) })
		for seen, want := range map[int]bool{1: true, 2: true, 1<<31 - 2: true, 1<<31 - 1: true, 1 << 31: false, 1<<31 + 1: false, 1 << 32: false, 1<<32 + 1: false, -1: false, -1 << 31: false, math.MinInt: false, math.MaxInt: false} {
			add("seen", want && kind == api.NoteLate, func(n *api.Note) { n.Seen = seen })
		}
		add("seen 0", true, func(n *api.Note) { n.Seen = 0 })
		for _, nodes := range [][]int{{0}, {7}, {3}, {0, 7}, {0, 1, 2, 3, 4, 5, 6, 7}, {1, 2}, {2, 4, 6}} {
			add("nodes", kind == api.NotePropose, func(n *api.Note) { n.Nodes = nodes })
		}
		add("nodes nil", true, func(n *api.Note) { n.Nodes = nil })
		add("nodes empty", true, func(n *api.Note) { n.Nodes = []int{} })
		for _, nodes := range [][]int{{8}, {-1}, {0, 8}, {-1, 0}, {0, 0}, {7, 7}, {1, 0}, {0, 2, 1}, {2, 0, 1}, {0, 1, 1, 2}, {0, 2, 0}, {0, 1, 2, 3, 4, 5, 6, 7, 7}, {0, 1, 2, 3, 4, 5, 6, 7, 8}, {-1, 0, 1, 2, 3, 4, 5, 6, 7}, {1 << 31}, {1 << 32}, {1<<31 + 1}, {math.MinInt}, {math.MaxInt}, {math.MinInt, math.MaxInt}, make([]int, 1<<16)} {
			add("crooked nodes", false, func(n *api.Note) { n.Nodes = nodes })
		}
		tells := kind == api.NoteFlush || kind == api.NoteInstall
		for _, f := range []api.Flush{full(), without(), lone(), bare(0, 1), bare(7, 1)} {
			add("one flush", tells, func(n *api.Note) { n.Flushes = []api.Flush{f} })
		}
		add("flushes nil", kind != api.NoteFlush, func(n *api.Note) { n.Flushes = nil })
		add("flushes empty", kind != api.NoteFlush, func(n *api.Note) { n.Flushes = []api.Flush{} })
		for _, l := range [][]api.Flush{{bare(2, 9), full()}, {bare(2, 9), full(), bare(4, 1)}, {full(), bare(7, 1)}, told(0, 1, 2, 3, 4, 5, 6), told(0, 1, 2, 3, 4, 5, 6, 7)} {
			add("some flushes", kind == api.NoteInstall, func(n *api.Note) { n.Flushes = l })
		}
		for _, l := range [][]api.Flush{{{}}, {full(), full()}, {bare(1, 1), bare(1, 1)}, {bare(1, 1), bare(1, 2)}, {bare(1, 2), bare(1, 1)}, {full(), bare(2, 9)}, told(0, 2, 1), told(2, 0, 1), told(0, 1, 1, 2), told(0, 1, 2, 3, 4, 5, 6, 7, 7), told(0, 1, 2, 3, 4, 5, 6, 7, 8), told(-1, 0, 1, 2, 3, 4, 5, 6, 7), told(-1), told(8), told(0, 8), {bare(0, 0)}, {bare(1, 1), bare(2, 0)}, {bare(1, 1), bare(2, 0), bare(3, 1)}, {bare(1, 0), bare(2, 1)}, {{}, {}}, told(math.MinInt, math.MaxInt), make([]api.Flush, 1<<12)} {
			add("crooked flushes", false, func(n *api.Note) { n.Flushes = l })
		}
		for seq, want := range map[int]bool{1: true, 2: true, 999: true, 1000: true, 1001: false, -1: false, 1 << 31: false, 1<<31 + 1: false, 1<<32 + 1: false, 1 << 32: false, math.MinInt: false, math.MaxInt: false} {
			add("seq", want && kind == api.NoteData, func(n *api.Note) { n.Seq = seq })
		}
		add("seq 0", kind != api.NoteData, func(n *api.Note) { n.Seq = 0 })
		add("no text", true, func(n *api.Note) { n.Text = "" })
		for _, text := range []string{"\x00", "ab", "\xff\xfe", thousand[1:], thousand, strings.Repeat("\u00e9", 500)} {
			add("text", kind == api.NoteData, func(n *api.Note) { n.Text = text })
		}
		for _, text := range []string{thousand + "a", strings.Repeat("\u00e9", 501), strings.Repeat("a", 1<<16)} {
			add("a long text", false, func(n *api.Note) { n.Text = text })
		}
		for _, other := range []int{0, 7, 8, -1, 256, 1<<31 + kind, 1<<32 + kind, math.MinInt, math.MaxInt} {
			add("another kind", false, func(n *api.Note) { n.Kind = other })
		}
	}
	return all
}

// told are what members of these nodes tell that were in no view.
func told(nodes ...int) []api.Flush {
	var l []api.Flush
	for _, node := range nodes {
		l = append(l, bare(node, 1))
	}
	return l
}

// P16.1 and P16.2: Right, Print and Parse, of notes of each kind, with one
// field changed.
func TestRightEdges(t *testing.T) {
	for _, c := range given() {
		stands(t, c.what+", of kind "+string(rune('0'+c.n.Kind)), c.n, c.want)
	}
	for _, n := range small() {
		stands(t, "a small one", n, true)
	}
	stands(t, "zero", api.Note{}, false)
}

// each calls with one note of every kind beside every choice of fields.
func each(with func(n api.Note)) {
	for kind := -1; kind <= 8; kind++ {
		for _, v := range []api.ViewId{id(0, 0, 0), id(1, 0, 1), id(1, 8, 1)} {
			for _, seen := range []int{0, 1, 1<<31 - 1, 1 << 31, -1} {
				for _, nodes := range [][]int{nil, {0}, {0, 1, 2, 3, 4, 5, 6, 7}, {8}, {1, 1}} {
					for _, flushes := range [][]api.Flush{nil, {full()}, told(0, 7), told(0, 1, 2, 3, 4, 5, 6, 7), told(1, 1), {{}}} {
						for _, seq := range []int{0, 1, 1000, 1001, -1} {
							for _, text := range []string{"", "a"} {
								with(api.Note{Kind: kind, Id: v, Seen: seen, Nodes: nodes, Flushes: flushes, Seq: seq, Text: text})
							}
						}
					}
				}
			}
		}
	}
}

// P16.1: Right, of every kind beside every choice of what is in the fields.
func TestRightAll(t *testing.T) {
	count := 0
	each(func(n api.Note) {
		if mayBe(n) {
			count++
		}
		if Right(n) != mayBe(n) {
			t.Errorf("kind %d, id %v, seen %d, nodes %v, %d flushes, seq %d, text %q: %v", n.Kind, n.Id, n.Seen, n.Nodes, len(n.Flushes), n.Seq, n.Text, Right(n))
		}
	})
	if want := 1 + 3 + 3 + 1 + 4 + 2*2; count != want {
		t.Errorf("%d may be, want %d", count, want)
	}
}

// P16.2: Parse, of the bytes of every kind beside every choice of what is in
// the fields: of what may not be too.
func TestParseAll(t *testing.T) {
	each(func(n api.Note) {
		s := noteBytes(n)
		if mayBe(n) {
			isRead(t, "every choice", s, n)
		} else {
			isNone(t, "every choice", s)
		}
	})
}

// hexed are the bytes that are written as pairs of digits; text stands between
// them, marked by a quote ahead of it.
func hexed(written string) string {
	out := ""
	for _, word := range strings.Fields(written) {
		if word[0] == '\'' {
			out += word[1:]
			continue
		}
		raw, err := hex.DecodeString(word)
		if err != nil {
			panic(err)
		}
		out += string(raw)
	}
	return out
}

// written are notes of each kind, with empty and with full lists, and their
// bytes, written out.
func written() []struct {
	n api.Note
	s string
} {
	return []struct {
		n api.Note
		s string
	}{
		{api.Note{Kind: api.NoteAsk}, hexed(`
			00000001 00000000 00000000 00000000 00000000
			00000000 00000000 00000000 00000000`)},
		{api.Note{Kind: api.NotePropose, Id: id(258, 7, 1)}, hexed(`
			00000002 00000102 00000007 00000001 00000000
			00000000 00000000 00000000 00000000`)},
		{api.Note{Kind: api.NotePropose, Id: id(258, 7, 1), Nodes: []int{0, 3, 7}}, hexed(`
			00000002 00000102 00000007 00000001 00000000
			00000003 00000000 00000003 00000007 00000000 00000000 00000000`)},
		{api.Note{Kind: api.NotePropose, Id: id(1<<31-1, 0, 1<<31-1), Nodes: []int{0, 1, 2, 3, 4, 5, 6, 7}}, hexed(`
			00000002 7fffffff 00000000 7fffffff 00000000
			00000008 00000000 00000001 00000002 00000003 00000004 00000005 00000006 00000007
			00000000 00000000 00000000`)},
		{api.Note{Kind: api.NoteLate, Id: id(3, 2, 1)}, hexed(`
			00000003 00000003 00000002 00000001 00000000
			00000000 00000000 00000000 00000000`)},
		{api.Note{Kind: api.NoteLate, Id: id(3, 2, 1), Seen: 1<<31 - 1}, hexed(`
			00000003 00000003 00000002 00000001 7fffffff
			00000000 00000000 00000000 00000000`)},
		{api.Note{Kind: api.NoteFlush, Id: id(3, 2, 1), Flushes: []api.Flush{bare(4, 258)}}, hexed(`
			00000004 00000003 00000002 00000001 00000000 00000000 00000001
			00000004 00000102 00000000 00000000 00000000 00000000
			00000000 00000000 00000000 00000000 00000000
			00000000 00000000`)},
		{api.Note{Kind: api.NoteFlush, Id: id(3, 2, 1), Flushes: []api.Flush{full()}}, hexed(`
			00000004 00000003 00000002 00000001 00000000 00000000 00000001
			00000003 00000005 00000009 00000002 00000004 00000003
			00000000 00000001 00000002 00000001 'a 00000002 'bc
			00000003 00000005 00000001 00000000
			00000006 00000002 00000001 00000001 'd
			00000007 00000003 00000004 00000005
			00000000 00000000 00000001 00000001 00000001 00000001 00000003 00000005 00000001 00000000 00000002
			00000001
			00000000 00000000`)},
		{api.Note{Kind: api.NoteInstall, Id: id(3, 2, 1)}, hexed(`
			00000005 00000003 00000002 00000001 00000000
			00000000 00000000 00000000 00000000`)},
		{api.Note{Kind: api.NoteInstall, Id: id(3, 2, 1), Flushes: []api.Flush{
			{Who: life(1, 1), Want: true},
			{Who: life(2, 6), Old: id(5, 2, 6), Last: api.Last{Id: id(4, 2, 6), Tree: []api.Spot{leaf(2, 6)}}},
			{Who: life(7, 1), Old: id(5, 2, 6), Streams: []api.Stream{stream(life(7, 1), "", "e")}},
		}}, hexed(`
			00000005 00000003 00000002 00000001 00000000 00000000 00000003
			00000001 00000001 00000000 00000000 00000000 00000000
			00000000 00000000 00000000 00000000 00000001
			00000002 00000006 00000005 00000002 00000006 00000000
			00000004 00000002 00000006 00000001 00000001 00000002 00000006 00000000
			00000007 00000001 00000005 00000002 00000006 00000001
			00000007 00000001 00000002 00000000 00000001 'e
			00000000 00000000 00000000 00000000 00000000
			00000000 00000000`)},
		{api.Note{Kind: api.NoteData, Id: id(3, 2, 1), Seq: 1}, hexed(`
			00000006 00000003 00000002 00000001 00000000
			00000000 00000000 00000001 00000000`)},
		{api.Note{Kind: api.NoteData, Id: id(3, 2, 1), Seq: 1000, Text: "b\x00\xff"}, hexed(`
			00000006 00000003 00000002 00000001 00000000
			00000000 00000000 000003e8 00000003 'b 00 ff`)},
	}
}

// P16.1 and P16.2: Print and Parse, of notes of each kind, written out.
func TestWritten(t *testing.T) {
	for _, c := range written() {
		stands(t, "written out", c.n, true)
		if got := Print(c.n); got != c.s {
			t.Errorf("kind %d: %q, want %q", c.n.Kind, got, c.s)
		}
		isRead(t, "written out", c.s, c.n)
	}
}

// samples are notes whose bytes are changed: each kind, with little and with
// much in it.
func samples() []api.Note {
	all := slices.Concat(kinds(), small())
	for _, c := range written() {
		all = append(all, c.n)
	}
	return all
}

// P16.2: what is cut off anywhere, at its end or its beginning, is none.
func TestCutOff(t *testing.T) {
	for _, n := range samples() {
		s := Print(n)
		for count := range len(s) {
			isNone(t, "cut off at its end", s[:count])
			isNone(t, "cut off at its beginning", s[count+1:])
		}
	}
	isNone(t, "nothing", "")
}

// P16.2: a note with a byte more is none, whatever byte and wherever; nor is
// one with many more, or two notes.
func TestMore(t *testing.T) {
	for _, n := range samples() {
		s := Print(n)
		for b := range 256 {
			more := string([]byte{byte(b)})
			isNone(t, "a byte more", s+more)
			// The kind is then 0, or far too great.
			isNone(t, "a byte ahead", more+s)
		}
		for at := range s {
			parses(t, "a nought more", s[:at]+"\x00"+s[at:])
			parses(t, "a byte twice", s[:at]+s[at:at+1]+s[at:])
			parses(t, "a byte less", s[:at]+s[at+1:])
			parses(t, "a number more", s[:at]+four(0)+s[at:])
			parses(t, "a 1 more", s[:at]+four(1)+s[at:])
		}
		isNone(t, "a number more behind", s+four(0))
		isNone(t, "two notes", s+s)
		isNone(t, "an asking behind", s+Print(api.Note{Kind: api.NoteAsk}))
		isNone(t, "many noughts behind", s+strings.Repeat("\x00", 59000-len(s)))
	}
}

// P16.2: one byte changed, at each place to each other one: none, but where
// that is a note again.
func TestByteChanged(t *testing.T) {
	for _, n := range samples() {
		s := Print(n)
		raw := []byte(s)
		others, again := 0, 0
		for at := range raw {
			for more := 1; more < 256; more++ {
				raw[at] += byte(more)
				parses(t, "a byte changed", string(raw))
				if _, ok := Parse(string(raw)); ok {
					again++
				} else {
					others++
				}
				raw[at] = s[at]
			}
		}
		if others < 255*20 || n.Kind != api.NoteAsk && again == 0 {
			t.Errorf("kind %d: %d changed ones are none, %d are not", n.Kind, others, again)
		}
	}
}

// P16.2: of what is printed, each number stands alone: another one in its place
// is a note just where the document says so.
func TestNumberChanged(t *testing.T) {
	numbers := []int{0, 1, 2, 3, 4, 5, 6, 7, 8, 9, 63, 64, 65, 127, 128, 129, 255, 256, 999, 1000, 1001, 60000, 1 << 24, 1<<31 - 1, 1 << 31, 1<<31 + 1, 1<<31 + 3, 1<<32 - 1}
	for _, n := range samples() {
		s := Print(n)
		for at := 0; at+4 <= len(s); at++ {
			for _, number := range numbers {
				parses(t, "a number changed", s[:at]+four(number)+s[at+4:])
			}
		}
	}
}

// head is what is ahead of the lists of a note: its kind, id and seen.
func head(kind, seen int) string { return four(kind) + idBytes(id(3, 2, 1)) + four(seen) }

// tail is what is behind the lists of a note that has no text.
func tail() string { return four(0) + four(0) }

// flushed is a note of one flush, of these bytes.
func flushed(kind int, f string) string { return head(kind, 0) + four(0) + four(1) + f + tail() }

// P16.2: bytes that spell a note that may not be are none: each word of what
// may be, by bytes put together by hand.
func TestSpelledButMayNotBe(t *testing.T) {
	who, old, noId := memberBytes(life(3, 5)), idBytes(id(9, 2, 4)), idBytes(id(0, 0, 0))
	nothing := noId + four(0)
	alone := idBytes(id(7, 3, 4)) + four(1) + four(1) + who
	some := four(1) + who + four(1) + textBytes("a")
	good := map[string]string{
		"an asking":            four(1) + noId + four(0) + four(0) + four(0) + tail(),
		"a proposal":           head(2, 0) + four(2) + four(0) + four(7) + four(0) + tail(),
		"a late one":           head(3, 9) + four(0) + four(0) + tail(),
		"bare":                 flushed(4, who+noId+four(0)+nothing+four(0)),
		"with a view":          flushed(4, who+old+four(0)+nothing+four(1)),
		"with a stream":        flushed(4, who+old+some+nothing+four(0)),
		"with a key":           flushed(4, who+noId+four(0)+alone+four(0)),
		"with both":            flushed(4, who+old+some+alone+four(1)),
		"installed":            flushed(5, who+old+some+alone+four(1)),
		"a text":               head(6, 0) + four(0) + four(0) + four(1) + textBytes("a"),
		"a text of 1000 bytes": head(6, 0) + four(0) + four(0) + four(1) + textBytes(strings.Repeat("a", 1000)),
	}
	for what, s := range good {
		if n, ok := Parse(s); !ok || Print(n) != s {
			t.Errorf("%s: is not read", what)
		}
	}
	crooked := map[string]string{
		"kind 0":                    four(0) + noId + four(0) + four(0) + four(0) + tail(),
		"kind 0, with an id":        head(0, 0) + four(0) + four(0) + tail(),
		"kind 7":                    head(7, 0) + four(0) + four(0) + tail(),
		"kind 7, with a text":       head(7, 0) + four(0) + four(0) + four(1) + textBytes("a"),
		"an asking with an id":      head(1, 0) + four(0) + four(0) + tail(),
		"an asking that has seen":   four(1) + noId + four(1) + four(0) + four(0) + tail(),
		"an asking with a node":     four(1) + noId + four(0) + four(1) + four(0) + four(0) + tail(),
		"an asking with a flush":    four(1) + noId + four(0) + four(0) + four(1) + who + noId + four(0) + nothing + four(0) + tail(),
		"an asking with a seq":      four(1) + noId + four(0) + four(0) + four(0) + four(1) + four(0),
		"an asking with a text":     four(1) + noId + four(0) + four(0) + four(0) + four(0) + textBytes("a"),
		"a proposal of no id":       four(2) + noId + four(0) + four(1) + four(0) + four(0) + tail(),
		"a proposal that has seen":  head(2, 1) + four(1) + four(0) + four(0) + tail(),
		"nodes the same":            head(2, 0) + four(2) + four(3) + four(3) + four(0) + tail(),
		"nodes fall":                head(2, 0) + four(2) + four(7) + four(0) + four(0) + tail(),
		"node 8":                    head(2, 0) + four(2) + four(0) + four(8) + four(0) + tail(),
		"node 2^31":                 head(2, 0) + four(1) + four(1<<31) + four(0) + tail(),
		"nine nodes":                head(2, 0) + four(9) + four(0) + four(1) + four(2) + four(3) + four(4) + four(5) + four(6) + four(7) + four(7) + four(0) + tail(),
		"a proposal with a flush":   head(2, 0) + four(1) + four(0) + four(1) + who + noId + four(0) + nothing + four(0) + tail(),
		"a proposal with a seq":     head(2, 0) + four(1) + four(0) + four(0) + four(1) + four(0),
		"a proposal with a text":    head(2, 0) + four(1) + four(0) + four(0) + four(0) + textBytes("a"),
		"a late one of no id":       four(3) + noId + four(9) + four(0) + four(0) + tail(),
		"seen 2^31":                 head(3, 1<<31) + four(0) + four(0) + tail(),
		"seen 2^32 less 1":          head(3, 1<<32-1) + four(0) + four(0) + tail(),
		"a late one with a node":    head(3, 9) + four(1) + four(0) + four(0) + tail(),
		"a late one with a flush":   head(3, 9) + four(0) + four(1) + who + noId + four(0) + nothing + four(0) + tail(),
		"a late one with a seq":     head(3, 9) + four(0) + four(0) + four(1) + four(0),
		"a flush of no id":          four(4) + noId + four(0) + four(0) + four(1) + who + noId + four(0) + nothing + four(0) + tail(),
		"no flush":                  head(4, 0) + four(0) + four(0) + tail(),
		"two flushes":               head(4, 0) + four(0) + four(2) + who + noId + four(0) + nothing + four(0) + memberBytes(life(4, 1)) + noId + four(0) + nothing + four(0) + tail(),
		"a flush that has seen":     head(4, 1) + four(0) + four(1) + who + noId + four(0) + nothing + four(0) + tail(),
		"a flush with a node":       head(4, 0) + four(1) + four(3) + four(1) + who + noId + four(0) + nothing + four(0) + tail(),
		"a flush with a seq":        head(4, 0) + four(0) + four(1) + who + noId + four(0) + nothing + four(0) + four(1) + four(0),
		"a flush with a text":       head(4, 0) + four(0) + four(1) + who + noId + four(0) + nothing + four(0) + four(0) + textBytes("a"),
		"installed for no id":       four(5) + noId + four(0) + four(0) + four(0) + tail(),
		"installed twice of one":    head(5, 0) + four(0) + four(2) + who + noId + four(0) + nothing + four(0) + who + noId + four(0) + nothing + four(0) + tail(),
		"two lives of one node":     head(5, 0) + four(0) + four(2) + memberBytes(life(3, 4)) + noId + four(0) + nothing + four(0) + who + noId + four(0) + nothing + four(0) + tail(),
		"installed, nodes fall":     head(5, 0) + four(0) + four(2) + memberBytes(life(4, 1)) + noId + four(0) + nothing + four(0) + who + noId + four(0) + nothing + four(0) + tail(),
		"a text of no id":           four(6) + noId + four(0) + four(0) + four(0) + four(1) + textBytes("a"),
		"a text of seq 0":           head(6, 0) + four(0) + four(0) + four(0) + textBytes("a"),
		"a text of seq 1001":        head(6, 0) + four(0) + four(0) + four(1001) + textBytes("a"),
		"a text of seq 2^31 and 1":  head(6, 0) + four(0) + four(0) + four(1<<31+1) + textBytes("a"),
		"a text of 1001 bytes":      head(6, 0) + four(0) + four(0) + four(1) + textBytes(strings.Repeat("a", 1001)),
		"a text that has seen":      head(6, 1) + four(0) + four(0) + four(1) + textBytes("a"),
		"a text with a node":        head(6, 0) + four(1) + four(0) + four(0) + four(1) + textBytes("a"),
		"a text with a flush":       head(6, 0) + four(0) + four(1) + who + noId + four(0) + nothing + four(0) + four(1) + textBytes("a"),
		"of nobody":                 flushed(4, memberBytes(life(0, 0))+noId+four(0)+nothing+four(0)),
		"of node 8":                 flushed(4, memberBytes(life(8, 1))+noId+four(0)+nothing+four(0)),
		"of life 2^31":              flushed(4, memberBytes(life(3, 1<<31))+noId+four(0)+nothing+four(0)),
		"an old without a counter":  flushed(4, who+idBytes(id(0, 2, 4))+four(0)+nothing+four(0)),
		"an old of node 8":          flushed(4, who+idBytes(id(9, 8, 4))+four(0)+nothing+four(0)),
		"streams of no view":        flushed(4, who+noId+some+nothing+four(0)),
		"a stream of nobody":        flushed(4, who+old+four(1)+memberBytes(life(0, 0))+four(1)+textBytes("a")+nothing+four(0)),
		"a stream of no texts":      flushed(4, who+old+four(1)+who+four(0)+nothing+four(0)),
		"a stream of a long text":   flushed(4, who+old+four(1)+who+four(1)+textBytes(strings.Repeat("a", 1001))+nothing+four(0)),
		"a stream of 1001 texts":    flushed(4, who+old+four(1)+who+four(1001)+strings.Repeat(four(0), 1001)+nothing+four(0)),
		"two streams of one":        flushed(4, who+old+four(2)+who+four(1)+textBytes("a")+who+four(1)+textBytes("a")+nothing+four(0)),
		"a last id without a tree":  flushed(4, who+old+four(0)+idBytes(id(7, 3, 4))+four(0)+four(0)),
		"a tree without a last id":  flushed(4, who+old+four(0)+noId+four(1)+four(1)+who+four(0)),
		"a last id of life 0":       flushed(4, who+old+four(0)+idBytes(id(7, 3, 0))+four(1)+four(1)+who+four(0)),
		"a tree of another one":     flushed(4, who+old+four(0)+idBytes(id(7, 3, 4))+four(1)+four(1)+memberBytes(life(3, 4))+four(0)),
		"a tree of nobody":          flushed(4, who+old+four(0)+idBytes(id(7, 3, 4))+four(1)+four(1)+memberBytes(life(0, 0))+four(0)),
		"a tree with it twice":      flushed(4, who+old+four(0)+idBytes(id(7, 3, 4))+four(3)+four(0)+four(1)+who+four(1)+who+four(0)),
		"a tree that doesn't end":   flushed(4, who+old+four(0)+idBytes(id(7, 3, 4))+four(2)+four(0)+four(1)+who+four(0)),
		"two trees":                 flushed(4, who+old+four(0)+idBytes(id(7, 3, 4))+four(2)+four(1)+who+four(1)+memberBytes(life(4, 1))+four(0)),
		"wants 2":                   flushed(4, who+noId+four(0)+nothing+four(2)),
		"wants 2^31":                flushed(4, who+noId+four(0)+nothing+four(1<<31)),
		"wants 2^31 and 1":          flushed(4, who+noId+four(0)+nothing+four(1<<31+1)),
		"nothing wanted is told":    flushed(4, who+noId+four(0)+nothing),
		"nine streams":              flushed(4, who+old+four(9)+nineStreams()+nothing+four(0)),
		"nine installed":            head(5, 0) + four(0) + four(9) + strings.Repeat(who+noId+four(0)+nothing+four(0), 9) + tail(),
		"a mark ahead of a leaf: 2": flushed(4, who+old+four(0)+idBytes(id(7, 3, 4))+four(1)+four(2)+who+four(0)),
		"an inner spot of somebody": flushed(4, who+old+four(0)+idBytes(id(7, 3, 4))+four(3)+four(0)+who+four(1)+who+four(1)+memberBytes(life(4, 1))+four(0)),
	}
	for what, s := range crooked {
		if _, ok := spelled(s); ok {
			t.Fatalf("%s: the test itself is wrong", what)
		}
		isNone(t, what, s)
	}
}

// nineStreams are the bytes of nine streams that rise.
func nineStreams() string {
	out := ""
	for i := range 9 {
		out += streamBytes(stream(life(i%8/4+i/8, i+1), "a"))
	}
	return out
}

// P16.2: what the document spells by four bytes, the highest first, spelled
// otherwise is none: of each number of a note, by its place.
func TestSpelledOtherwise(t *testing.T) {
	// As no number here reads the same from both ends, each one tells.
	n := api.Note{Kind: api.NoteInstall, Id: id(258, 7, 3), Flushes: []api.Flush{full()}}
	numbers := []int{5, 258, 7, 3, 0, 0, 1, 3, 5, 9, 2, 4, 3, 0, 1, 2, 1}
	s := Print(n)
	for i, number := range numbers {
		ahead, behind := s[:4*i], s[4*i+4:]
		if s != ahead+four(number)+behind {
			t.Fatalf("the test itself is wrong at %d", i)
		}
		isRead(t, "as it is", ahead+four(number)+behind, n)
		isNone(t, "with its top bit", ahead+four(number+1<<31)+behind)
		isNone(t, "of three bytes", ahead+four(number)[1:]+behind)
		isNone(t, "of two bytes", ahead+four(number)[2:]+behind)
		isNone(t, "of one byte", ahead+four(number)[3:]+behind)
		isNone(t, "of no byte", ahead+behind)
		isNone(t, "of five bytes", ahead+"\x00"+four(number)+behind)
		isNone(t, "of eight bytes", ahead+four(0)+four(number)+behind)
		isNone(t, "in digits", ahead+string(rune('0'+number%10))+behind)
		// The lowest byte first may be another note's, but isn't this one's.
		turned := ahead + string(binary.LittleEndian.AppendUint32(nil, uint32(number))) + behind
		parses(t, "the lowest first", turned)
		if other, _ := Parse(turned); number != 0 && sameNote(other, n) {
			t.Errorf("%d is read from its lowest byte on", number)
		}
	}
	who, old, noId := memberBytes(life(3, 5)), idBytes(id(9, 2, 4)), idBytes(id(0, 0, 0))
	alone := idBytes(id(7, 3, 4)) + four(1) + four(1) + who
	for what, f := range map[string]string{
		"a member's life first":      four(9) + four(3) + noId + four(0) + noId + four(0) + four(0),
		"old ahead of who":           noId + who + four(0) + noId + four(0) + four(0),
		"an id's node first":         who + four(2) + four(9) + four(4) + four(0) + noId + four(0) + four(0),
		"the last key first":         who + old + alone + four(1) + who + four(1) + textBytes("a") + four(0),
		"the want first":             who + old + four(1) + four(1) + who + four(1) + textBytes("a") + alone,
		"no last key":                who + old + four(0) + four(0),
		"texts ahead of from":        who + old + four(1) + four(1) + textBytes("a") + who + alone + four(0),
		"a text without its number":  who + old + four(1) + who + four(1) + "a" + alone + four(0),
		"a text with an end of its":  who + old + four(1) + who + four(1) + textBytes("a") + "\x00" + alone + four(0),
		"a text filled up":           who + old + four(1) + who + four(1) + textBytes("a") + "\x00\x00\x00" + alone + four(0),
		"a text's number too great":  who + old + four(1) + who + four(1) + four(2) + "a" + alone + four(0),
		"a text's number too small":  who + old + four(1) + who + four(1) + four(0) + "a" + alone + four(0),
		"leaves without marks":       who + old + four(0) + idBytes(id(7, 3, 4)) + four(1) + who + four(0),
		"a tree of its leaves":       who + old + four(0) + idBytes(id(7, 3, 4)) + four(2) + four(0) + four(1) + who + four(1) + memberBytes(life(4, 1)) + four(0),
		"a tree without its number":  who + old + four(0) + idBytes(id(7, 3, 4)) + four(1) + who + four(0),
		"an inner spot with nobody":  who + old + four(0) + idBytes(id(7, 3, 4)) + four(3) + four(0) + four(0) + four(0) + four(1) + who + four(1) + memberBytes(life(4, 1)) + four(0),
		"a tree's halves first":      who + old + four(0) + idBytes(id(7, 3, 4)) + four(3) + four(1) + who + four(1) + memberBytes(life(4, 1)) + four(0) + four(0),
		"marks the other way round":  who + old + four(0) + idBytes(id(7, 3, 4)) + four(1) + four(0) + who + four(0),
		"a want of one byte":         who + old + four(0) + alone + "\x01",
		"streams told by their ends": who + old + who + four(1) + textBytes("a") + four(0) + alone + four(0),
	} {
		isNone(t, what, flushed(api.NoteFlush, f))
		isNone(t, what, flushed(api.NoteInstall, f))
	}
}

// P16.2 and P1: counts that tell more than what follows, and very great ones,
// are none, and take neither long nor much memory.
func TestGreatCounts(t *testing.T) {
	who, old, noId := memberBytes(life(3, 5)), idBytes(id(9, 2, 4)), idBytes(id(0, 0, 0))
	some := who + old + four(1) + who + four(1) + textBytes("a")
	ahead := map[string]string{
		"nodes":     head(2, 0),
		"flushes":   head(5, 0) + four(0),
		"streams":   head(4, 0) + four(0) + four(1) + who + old,
		"texts":     head(4, 0) + four(0) + four(1) + who + old + four(1) + who,
		"bytes":     head(4, 0) + four(0) + four(1) + who + old + four(1) + who + four(1),
		"spots":     head(4, 0) + four(0) + four(1) + some + idBytes(id(7, 3, 4)),
		"no spots":  head(4, 0) + four(0) + four(1) + who + noId + four(0) + noId,
		"of a text": head(6, 0) + four(0) + four(0) + four(1),
	}
	for what, s := range ahead {
		for _, count := range []int{1, 2, 7, 8, 9, 64, 127, 128, 129, 999, 1000, 1001, 59999, 60000, 60001, 1<<24 - 1, 1 << 24, 1<<31 - 1, 1 << 31, 1<<31 + 1, 1<<32 - 1} {
			parses(t, what, s+four(count))
			for _, behind := range []string{"\x00", "abc", four(0), four(1), who, strings.Repeat("\x00", 1000), strings.Repeat(four(1), 1000), strings.Repeat(four(count), 100), strings.Repeat(four(1), 14000)} {
				parses(t, what, s+four(count)+behind)
			}
		}
		for _, count := range []int{1<<31 - 1, 1 << 31, 1<<32 - 1} {
			parsed := testing.AllocsPerRun(10, func() { Parse(s + four(count)) })
			if parsed > 100 {
				t.Errorf("%s: %d of them make %v pieces of memory", what, count, parsed)
			}
		}
	}
	for _, count := range []int{8, 1000, 1<<31 - 1, 1<<32 - 1} {
		isNone(t, "the same count everywhere", strings.Repeat(four(count), 15000))
		isNone(t, "behind a head", head(5, 0)+strings.Repeat(four(count), 14000))
	}
}

// sized is a note of just so many bytes: of one flush with long texts.
func sized(kind, bytes int) api.Note {
	f := full()
	f.Streams[1].Texts = nil
	n := api.Note{Kind: kind, Id: id(3, 2, 1), Flushes: []api.Flush{f}}
	for left := bytes - len(noteBytes(n)); left > 0; {
		text := strings.Repeat("\xfe", min(1000, left-4))
		if rest := left - 4 - len(text); rest > 0 && rest < 4 {
			text = text[:500]
		}
		f.Streams[1].Texts = append(f.Streams[1].Texts, text)
		left -= 4 + len(text)
	}
	return n
}

// P16.2: a note of as many bytes as a mail may have is read; one of one more
// is none, though it may be.
func TestMaxMail(t *testing.T) {
	for _, kind := range []int{api.NoteFlush, api.NoteInstall} {
		for _, bytes := range []int{59000, 59998, 59999, 60000} {
			n := sized(kind, bytes)
			if s := Print(n); !Right(n) || len(s) != bytes || s != noteBytes(n) {
				t.Fatalf("%d bytes: Right is %v, printed as %d", bytes, Right(n), len(s))
			}
			isRead(t, "a long one", Print(n), n)
			isNone(t, "a long one, and a byte", Print(n)+"\x00")
			isNone(t, "a long one, cut off", Print(n)[:bytes-1])
		}
		for _, bytes := range []int{60001, 60002, 61000, 120000, 1000000} {
			n := sized(kind, bytes)
			if s := Print(n); !Right(n) || len(s) != bytes || s != noteBytes(n) {
				t.Fatalf("%d bytes: Right is %v, printed as %d", bytes, Right(n), len(s))
			}
			isNone(t, "too long a one", Print(n))
			isNone(t, "too long a one, cut off", Print(n)[:60000])
		}
	}
	isNone(t, "a very long one", strings.Repeat("\x00", 1<<26))
	isNone(t, "a very long one", Print(kinds()[3])+strings.Repeat("\x00", 1<<26))
}

// some draws a number: a small one, or one of any length.
func some(r *rand.Rand) int { return 1 + r.Intn(1<<31-1)>>r.Intn(31) }

func drawnMember(r *rand.Rand) api.Member { return life(r.Intn(8), some(r)) }

func drawnId(r *rand.Rand) api.ViewId { return id(some(r), r.Intn(8), some(r)) }

func drawnText(r *rand.Rand) string {
	raw := make([]byte, r.Intn(12)*r.Intn(2))
	r.Read(raw)
	return string(raw)
}

// drawnTree draws a tree of that many members, who among them.
func drawnTree(r *rand.Rand, leaves int, who api.Member) []api.Spot {
	if leaves == 1 {
		return []api.Spot{{Leaf: true, Who: who}}
	}
	left := 1 + r.Intn(leaves-1)
	other := drawnMember(r)
	if r.Intn(2) == 0 {
		return slices.Concat([]api.Spot{inner()}, drawnTree(r, left, who), drawnTree(r, leaves-left, other))
	}
	return slices.Concat([]api.Spot{inner()}, drawnTree(r, left, other), drawnTree(r, leaves-left, who))
}

// drawnFlush draws what a member of that node tells: such as may be.
func drawnFlush(r *rand.Rand, node int) api.Flush {
	f := api.Flush{Who: life(node, some(r)), Want: r.Intn(2) == 0}
	if r.Intn(4) > 0 {
		f.Old = drawnId(r)
		for who := range 8 {
			if r.Intn(2) == 0 {
				texts := []string{drawnText(r)}
				for r.Intn(4) > 0 {
					texts = append(texts, drawnText(r))
				}
				f.Streams = append(f.Streams, stream(life(who, some(r)), texts...))
			}
		}
	}
	if r.Intn(3) > 0 {
		f.Last = api.Last{Id: drawnId(r), Tree: drawnTree(r, 1+r.Intn(12), f.Who)}
	}
	// Two leaves may have been drawn alike, so that this is no tree.
	if !flushMayBe(f) {
		return drawnFlush(r, node)
	}
	return f
}

// drawn draws a note of that kind: such as may be.
func drawn(r *rand.Rand, kind int) api.Note {
	n := api.Note{Kind: kind, Id: drawnId(r)}
	switch kind {
	case api.NoteAsk:
		n.Id = id(0, 0, 0)
	case api.NoteLate:
		n.Seen = some(r) - 1
	case api.NoteFlush:
		n.Flushes = []api.Flush{drawnFlush(r, r.Intn(8))}
	case api.NoteData:
		n.Seq, n.Text = 1+r.Intn(1000), drawnText(r)
	}
	for node := range 8 {
		if kind == api.NotePropose && r.Intn(2) == 0 {
			n.Nodes = append(n.Nodes, node)
		}
		if kind == api.NoteInstall && r.Intn(2) == 0 {
			n.Flushes = append(n.Flushes, drawnFlush(r, node))
		}
	}
	return n
}

// P16.1 to P16.3: of drawn notes of each kind: they may be, are printed as they
// must, and are there and back.
func TestThereAndBack(t *testing.T) {
	r := rand.New(rand.NewSource(16))
	for range 500 {
		for kind := 1; kind <= 6; kind++ {
			n := drawn(r, kind)
			stands(t, "drawn", n, true)
			for _, f := range n.Flushes {
				if !Flush(f) {
					t.Errorf("a drawn flush may not be: %v", f)
				}
			}
			back, ok := Parse(Print(n))
			if !ok || !sameNote(back, n) || Print(back) != Print(n) || !Right(back) {
				t.Errorf("kind %d is not there and back", kind)
			}
		}
	}
	for _, n := range samples() {
		back, ok := Parse(Print(n))
		if !ok || !sameNote(back, n) || Print(back) != Print(n) || !Right(back) {
			t.Errorf("kind %d is not there and back", n.Kind)
		}
	}
}

// P16.3: of notes that may be, no two have the same bytes, and what Parse reads
// is printed as the same bytes.
func TestBytesAreTheirOwn(t *testing.T) {
	byBytes := map[string]api.Note{}
	for _, c := range given() {
		if !Right(c.n) {
			continue
		}
		s := Print(c.n)
		if other, ok := byBytes[s]; ok && !sameNote(other, c.n) {
			t.Errorf("two notes of kinds %d and %d have the same bytes", c.n.Kind, other.Kind)
		}
		byBytes[s] = c.n
	}
}

// P16.2: drawn notes with some of their bytes changed, moved, left out or put
// in: none, but where that is a note again.
func TestSpoilt(t *testing.T) {
	r := rand.New(rand.NewSource(160))
	for range 4000 {
		raw := []byte(Print(drawn(r, 1+r.Intn(6))))
		for range 1 + r.Intn(3) {
			at := r.Intn(len(raw))
			switch r.Intn(5) {
			case 0:
				raw[at] = byte(r.Intn(256))
			case 1:
				raw[at] = byte(r.Intn(9))
			case 2:
				raw = slices.Delete(raw, at, min(len(raw), at+1+r.Intn(8)))
			case 3:
				raw = slices.Insert(raw, at, make([]byte, 1+r.Intn(8))...)
			default:
				other := r.Intn(len(raw))
				raw[at], raw[other] = raw[other], raw[at]
			}
			if len(raw) == 0 {
				break
			}
		}
		parses(t, "spoilt", string(raw))
	}
}

// ends are numbers of all kinds, and the ends of their type.
func ends() []int {
	return []int{0, 1, 2, 6, 7, 8, 9, 1000, 1001, 1<<31 - 1, 1 << 31, 1 << 32, -1, -2, -1 << 31, math.MinInt, math.MinInt + 1, math.MaxInt - 1, math.MaxInt}
}

// P1: notes that may not be, of whatever fields, make no call panic, and Right
// and Flush tell of each whether it may be.
func TestWhateverFields(t *testing.T) {
	r := rand.New(rand.NewSource(161))
	number := func() int {
		if r.Intn(2) == 0 {
			return 1 + r.Intn(8)
		}
		return ends()[r.Intn(len(ends()))]
	}
	for range 20000 {
		f := api.Flush{Who: life(number(), number()), Old: id(number(), number(), number()), Want: r.Intn(2) == 0}
		for range r.Intn(3) {
			f.Streams = append(f.Streams, stream(life(number(), number()), strings.Split(strings.Repeat("a ", r.Intn(4)), " ")...))
		}
		for range r.Intn(4) {
			f.Last.Tree = append(f.Last.Tree, api.Spot{Leaf: r.Intn(3) > 0, Who: life(number(), number())})
		}
		if r.Intn(2) == 0 {
			f.Last.Id = id(number(), number(), number())
		}
		n := api.Note{Kind: number(), Id: id(number(), number(), number()), Seen: number(), Seq: number(), Text: strings.Repeat("a", r.Intn(3))}
		for range r.Intn(3) {
			n.Nodes = append(n.Nodes, number())
		}
		for range r.Intn(3) {
			n.Flushes = append(n.Flushes, f)
		}
		if Flush(f) != flushMayBe(f) || Right(n) != mayBe(n) {
			t.Errorf("Flush of %v is %v, Right of kind %d is %v", f, Flush(f), n.Kind, Right(n))
		}
		back, ok := Parse(Print(n))
		if ok && !Right(back) {
			t.Errorf("what may not be is read of kind %d", n.Kind)
		}
	}
	many := make([]api.Flush, 1<<12)
	for i := range many {
		many[i] = api.Flush{Streams: make([]api.Stream, 9), Last: api.Last{Tree: make([]api.Spot, 9)}}
	}
	deep := api.Flush{Who: life(3, 5), Old: id(1, 1, 1), Last: api.Last{Id: id(1, 1, 1), Tree: make([]api.Spot, 1<<16)}, Streams: make([]api.Stream, 1<<16)}
	n := api.Note{Kind: 9, Seen: -1, Nodes: make([]int, 1<<16), Flushes: append(many, deep), Seq: -1, Text: strings.Repeat("a", 1<<20)}
	for kind := range 9 {
		n.Kind = kind
		if Right(n) || Flush(deep) {
			t.Errorf("kind %d of very much may be", kind)
		}
		isNone(t, "very much", Print(n))
	}
}

// roomy is the note with room behind each of its lists, in which others stand.
func roomy(n api.Note) api.Note {
	n.Nodes = append(slices.Clone(n.Nodes), 8, -1)[:len(n.Nodes)]
	flushes := append(slices.Clone(n.Flushes), bare(1, 1), api.Flush{})
	for i, f := range flushes {
		streams := append(slices.Clone(f.Streams), stream(life(7, 7), "z"), api.Stream{})
		for k, s := range streams {
			streams[k].Texts = append(slices.Clone(s.Texts), "y", "x")[:len(s.Texts)]
		}
		flushes[i].Streams = streams[:len(f.Streams)]
		flushes[i].Last.Tree = append(slices.Clone(f.Last.Tree), leaf(2, 2), inner())[:len(f.Last.Tree)]
	}
	n.Flushes = flushes[:len(n.Flushes)]
	return n
}

// opened is a copy of a note with the whole room of each of its lists in it.
func opened(n api.Note) api.Note {
	n.Nodes = slices.Clone(n.Nodes[:cap(n.Nodes)])
	n.Flushes = slices.Clone(n.Flushes[:cap(n.Flushes)])
	for i, f := range n.Flushes {
		n.Flushes[i].Streams = slices.Clone(f.Streams[:cap(f.Streams)])
		for k, s := range n.Flushes[i].Streams {
			n.Flushes[i].Streams[k].Texts = slices.Clone(s.Texts[:cap(s.Texts)])
		}
		n.Flushes[i].Last.Tree = slices.Clone(f.Last.Tree[:cap(f.Last.Tree)])
	}
	return n
}

// Rule 3: what is handed in is not changed, its spare room neither.
func TestNothingChanges(t *testing.T) {
	for _, c := range given() {
		n := roomy(c.n)
		was := opened(n)
		for range 2 {
			if Right(n) != c.want || c.want && Print(n) != noteBytes(c.n) {
				t.Errorf("%s: not the same with room behind it", c.what)
			}
			Print(n)
			for _, f := range n.Flushes {
				Flush(f)
			}
		}
		if !sameNote(opened(n), was) {
			t.Errorf("%s: is changed", c.what)
		}
	}
}

// spoil overwrites all that a note's lists hold, their room too.
func spoil(n api.Note) {
	for _, f := range n.Flushes {
		for _, s := range f.Streams {
			clear(s.Texts[:cap(s.Texts)])
		}
		clear(f.Streams[:cap(f.Streams)])
		clear(f.Last.Tree[:cap(f.Last.Tree)])
	}
	clear(n.Flushes[:cap(n.Flushes)])
	clear(n.Nodes[:cap(n.Nodes)])
}

// Rule 3: an answer is new memory, and no two lists of it share any.
func TestSharesNothing(t *testing.T) {
	for _, n := range samples() {
		s := Print(n)
		first, _ := Parse(s)
		second, _ := Parse(s)
		spoil(first)
		if !sameNote(second, n) {
			t.Errorf("kind %d: two answers share memory", n.Kind)
		}
		third, _ := Parse(s)
		third.Nodes = append(third.Nodes, 9)
		for i, f := range third.Flushes {
			for k, one := range f.Streams {
				f.Streams[k].Texts = append(one.Texts, "w")[:len(one.Texts)]
			}
			third.Flushes[i].Streams = append(f.Streams, api.Stream{})[:len(f.Streams)]
			third.Flushes[i].Last.Tree = append(f.Last.Tree, inner())[:len(f.Last.Tree)]
		}
		third.Nodes = third.Nodes[:len(n.Nodes)]
		if !sameNote(third, n) {
			t.Errorf("kind %d: two lists of an answer share memory", n.Kind)
		}
	}
}

// Rules 4 and 6: the same arguments come to the same, in whatever goroutine.
func TestManyAtOnce(t *testing.T) {
	notes := samples()
	var workers sync.WaitGroup
	for range 8 {
		workers.Go(func() {
			for range 20 {
				for _, n := range notes {
					back, ok := Parse(Print(n))
					if !Right(n) || !ok || !sameNote(back, n) || Print(n) != noteBytes(n) {
						t.Error("at once: not the same")
					}
				}
			}
		})
	}
	workers.Wait()
}

// noteIn makes a note of any kind out of bytes: a number by each of them, and
// lists as long as they say, as far as the bytes last.
func noteIn(raw []byte) api.Note {
	next := func() int {
		if len(raw) == 0 {
			return 0
		}
		b := raw[0]
		raw = raw[1:]
		if b >= 200 {
			return ends()[int(b)%len(ends())]
		}
		return int(b % 16)
	}
	few := func(most int) int {
		if len(raw) == 0 || next() < 0 {
			return 0
		}
		return min(most, len(raw)) & max(next(), 0)
	}
	member := func() api.Member {
		node := next()
		return life(node, next())
	}
	view := func() api.ViewId {
		counter := next()
		m := member()
		return id(counter, m.Node, m.Inc)
	}
	n := api.Note{Kind: next(), Id: view(), Seen: next(), Seq: next()}
	for range few(9) {
		n.Nodes = append(n.Nodes, next())
	}
	n.Text = strings.Repeat("t", few(3))
	for range few(9) {
		f := api.Flush{Who: member(), Old: view(), Last: api.Last{Id: view()}, Want: next()%2 == 1}
		for range few(9) {
			s := api.Stream{From: member()}
			for range few(5) {
				s.Texts = append(s.Texts, strings.Repeat("u", few(3)))
			}
			f.Streams = append(f.Streams, s)
		}
		for range few(15) {
			if next()%2 == 0 {
				f.Last.Tree = append(f.Last.Tree, inner())
			} else {
				f.Last.Tree = append(f.Last.Tree, api.Spot{Leaf: true, Who: member()})
			}
		}
		n.Flushes = append(n.Flushes, f)
	}
	return n
}

// P1: no call panics, at any arguments; each answer is right at all of them.
func FuzzAll(f *testing.F) {
	for _, n := range samples() {
		s := Print(n)
		f.Add(s, 0, byte(1), []byte(s))
		f.Add(s, len(s)/2, byte(0x80), []byte("\x01\x00\x00\x00"))
		f.Add(s[:len(s)/2], len(s)/3, byte(7), []byte{4, 1, 1, 1, 0, 0, 0, 0, 0, 0, 1, 1, 3, 1})
	}
	f.Add("", -1, byte(0), []byte(nil))
	f.Fuzz(func(t *testing.T, s string, at int, change byte, raw []byte) {
		parses(t, "any bytes", s)
		if at >= 0 && at < len(s) {
			parses(t, "a byte changed", s[:at]+string([]byte{s[at] ^ change})+s[at+1:])
			parses(t, "cut off", s[:at])
		}
		n := noteIn(raw)
		stands(t, "any fields", n, mayBe(n))
		for _, one := range n.Flushes {
			if Flush(one) != flushMayBe(one) {
				t.Errorf("Flush of %v is %v", one, Flush(one))
			}
		}
		Print(n)
	})
}
