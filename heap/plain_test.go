package heap_test

import (
	"math"
	"slices"
	"testing"

	"trencher/api"
	"trencher/heap"
)

// What the tests hold the package against: the document's words, written out plainly.

// free is the head of a span that is free.
var free = api.Head{}

// small is the head of a span whose blocks are of a class.
func small(class int) api.Head {
	return api.Head{Kind: 1, Class: class}
}

// large is the head of the first span of a block of so many.
func large(many int) api.Head {
	return api.Head{Kind: 2, Class: 4, Many: many}
}

// more is the head of a span that is so many behind the first one of its block.
func more(many int) api.Head {
	return api.Head{Kind: 3, Class: 4, Many: many}
}

// every has all heads that may be.
func every() []api.Head {
	return []api.Head{
		free,
		small(0), small(1), small(2), small(3),
		large(1), large(2), large(3), large(4),
		more(1), more(2), more(3),
	}
}

// everyList are all lists of so many heads, of these.
func everyList(many int, of ...api.Head) [][]api.Head {
	if many == 0 {
		return [][]api.Head{nil}
	}
	var l [][]api.Head
	for _, ahead := range everyList(many-1, of...) {
		for _, h := range of {
			l = append(l, append(slices.Clone(ahead), h))
		}
	}
	return l
}

// block has the heads of a large block's spans.
func block(many int) []api.Head {
	l := []api.Head{large(many)}
	for k := 1; k < many; k++ {
		l = append(l, more(k))
	}
	return l
}

// join has lists of heads, one behind the other.
func join(lists ...[]api.Head) []api.Head {
	return slices.Concat(lists...)
}

// of is a list of these heads.
func of(heads ...api.Head) []api.Head {
	return heads
}

// frees is a list of so many free ones.
func frees(many int) []api.Head {
	return make([]api.Head, many)
}

// noHeads are some that may not be, some of them alike in their lowest bits to such as may.
func noHeads() []api.Head {
	l := []api.Head{{Class: 1}, {Many: 1}, {Class: 4, Many: 1}, {Class: -1}, {Many: -1}}
	for _, kind := range []int{4, 5, -1, -4, 1 << 8, 1<<8 + 1, 1<<16 + 1, 1 << 32, 1<<32 + 1, math.MaxInt, math.MinInt} {
		l = append(l, api.Head{Kind: kind}, api.Head{Kind: kind, Class: 1}, api.Head{Kind: kind, Class: 4, Many: 1})
	}
	for _, class := range []int{4, 5, 8, -1, -4, 1 << 8, 1<<16 + 1, 1 << 32, 1<<32 + 4, math.MaxInt, math.MinInt} {
		l = append(l, small(class))
		if class != 4 {
			l = append(l, api.Head{Kind: 2, Class: class, Many: 1}, api.Head{Kind: 3, Class: class, Many: 1})
		}
	}
	for _, many := range []int{-1, 5, 8, 1 << 8, 1<<8 + 1, 1<<32 + 1, math.MaxInt, math.MinInt} {
		l = append(l, large(many), more(many), api.Head{Kind: 1, Class: 1, Many: many})
	}
	return append(l, large(0), more(0), more(4), api.Head{Kind: 2}, api.Head{Kind: 3}, api.Head{Kind: 1, Many: 1})
}

// wrongs are numbers of which there are none where there are so many, counted from 0 on: those at the edges, and some of which the lowest bits alone would be right.
func wrongs(many int) []int {
	return []int{-1, many, -2, many + 1, -many, many * 2, -64, 64, 255, 256, 1 << 16, math.MaxInt32, math.MinInt32, 1 << 32, 1<<32 + many - 1, -1 << 32, math.MaxInt - 1, math.MaxInt, math.MinInt, math.MinInt + 1}
}

// noManys are numbers of spans that no block has.
func noManys() []int {
	return []int{0, 5, -1, 6, -4, -5, 16, 17, 256, 257, math.MaxInt32, math.MinInt32, 1<<32 + 1, 1 - 1<<32, math.MaxInt, math.MaxInt - 3, math.MinInt, math.MinInt + 1}
}

// everyGeometry are all that may be.
func everyGeometry() []api.Geometry {
	var l []api.Geometry
	for spans := 1; spans <= 16; spans++ {
		for lanes := 1; lanes <= 4; lanes++ {
			for roots := 1; roots <= 8; roots++ {
				l = append(l, api.Geometry{Spans: spans, Lanes: lanes, Roots: roots})
			}
		}
	}
	return l
}

// spanAt is where a span begins.
func spanAt(g api.Geometry, span int) int {
	return 16 + 40*g.Lanes + 8*g.Spans + 64*span
}

// blocksOf are where a span's blocks begin, if they are of a class: rising.
func blocksOf(g api.Geometry, span, class int) []int {
	words := []int{2, 4, 8, 16}[class]
	var l []int
	for off := 0; off < 64; off += words {
		l = append(l, spanAt(g, span)+off)
	}
	return l
}

// A scene is what a heap is made of.
type scene struct {
	g     api.Geometry
	heads []api.Head
	maps  []uint64
}

// with is a scene that has just the spans of these heads, so many lanes, and these maps; of the spans behind them the maps are 0.
func with(lanes int, heads []api.Head, maps ...uint64) scene {
	g := api.Geometry{Spans: len(heads), Lanes: lanes, Roots: 1}
	return scene{g, heads, slices.Concat(maps, make([]uint64, len(heads)-len(maps)))}
}

// plain is what a heap should be. A lane's cache is told by the lane and the class.
type plain struct {
	g      api.Geometry
	heads  []api.Head
	lists  map[int][]int
	caches map[[2]int][]int
}

// newPlain is a plain heap as an image tells it.
func newPlain(s scene) *plain {
	p := &plain{s.g, slices.Clone(s.heads), map[int][]int{}, map[[2]int][]int{}}
	for span, h := range s.heads {
		if h.Kind != 1 {
			continue
		}
		for i, at := range blocksOf(s.g, span, h.Class) {
			if s.maps[span]>>i&1 == 0 {
				p.lists[h.Class] = append(p.lists[h.Class], at)
			}
		}
	}
	return p
}

// isClass tells whether a class has a list.
func isClass(class int) bool {
	return class >= 0 && class <= 3
}

// has tells whether there are such a lane and such a class.
func (p *plain) has(lane, class int) bool {
	return lane >= 0 && lane < p.g.Lanes && isClass(class)
}

// isSpan tells whether there is such a span.
func (p *plain) isSpan(span int) bool {
	return span >= 0 && span < len(p.heads)
}

func (p *plain) take(lane, class int) (int, bool) {
	cache := p.caches[[2]int{lane, class}]
	if len(cache) == 0 {
		return 0, false
	}
	p.caches[[2]int{lane, class}] = slices.Clone(cache[:len(cache)-1])
	return cache[len(cache)-1], true
}

func (p *plain) give(lane, class, at int) {
	if p.has(lane, class) {
		cache := slices.Clone(p.caches[[2]int{lane, class}])
		p.caches[[2]int{lane, class}] = append(cache, at)
	}
}

func (p *plain) refill(lane, class int) int {
	n := 0
	for p.has(lane, class) && n < 4 && len(p.lists[class]) > 0 {
		list := p.lists[class]
		p.lists[class] = slices.Clone(list[:len(list)-1])
		p.give(lane, class, list[len(list)-1])
		n++
	}
	return n
}

func (p *plain) drain(lane, class int) int {
	cache := p.caches[[2]int{lane, class}]
	if len(cache) <= 8 {
		return 0
	}
	for i := range 4 {
		p.lists[class] = append(slices.Clone(p.lists[class]), cache[i])
	}
	p.caches[[2]int{lane, class}] = slices.Clone(cache[4:])
	return 4
}

// frees tells whether so many spans from one on are there, and are free.
func (p *plain) frees(span, many int) bool {
	if !p.isSpan(span) || many < 1 || many > 4 {
		return false
	}
	for i := range many {
		if !p.isSpan(span+i) || p.heads[span+i].Kind != 0 {
			return false
		}
	}
	return true
}

func (p *plain) room(many int) int {
	for span := range p.heads {
		if p.frees(span, many) {
			return span
		}
	}
	return -1
}

func (p *plain) carve(span, class int) api.Errno {
	if !p.frees(span, 1) || !isClass(class) {
		return api.ErrArg
	}
	p.heads[span] = small(class)
	blocks := blocksOf(p.g, span, class)
	for i := range blocks {
		p.lists[class] = append(slices.Clone(p.lists[class]), blocks[len(blocks)-1-i])
	}
	return api.OK
}

func (p *plain) large(span, many int) api.Errno {
	if !p.frees(span, many) {
		return api.ErrArg
	}
	for i, h := range block(many) {
		p.heads[span+i] = h
	}
	return api.OK
}

func (p *plain) loose(span int) api.Errno {
	if !p.isSpan(span) || p.heads[span].Kind != 2 {
		return api.ErrArg
	}
	for i, h := range block(p.heads[span].Many) {
		if !p.isSpan(span+i) || p.heads[span+i] != h {
			return api.ErrArg
		}
	}
	for range block(p.heads[span].Many) {
		p.heads[span] = free
		span++
	}
	return api.OK
}

// isEmpty tells whether all blocks of a small span are in its class's list.
func (p *plain) isEmpty(span int) bool {
	if !p.isSpan(span) || p.heads[span].Kind != 1 {
		return false
	}
	for _, at := range blocksOf(p.g, span, p.heads[span].Class) {
		if !slices.Contains(p.lists[p.heads[span].Class], at) {
			return false
		}
	}
	return true
}

func (p *plain) empty() int {
	for span := range p.heads {
		if p.isEmpty(span) {
			return span
		}
	}
	return -1
}

func (p *plain) release(span int) api.Errno {
	if !p.isEmpty(span) {
		return api.ErrArg
	}
	class := p.heads[span].Class
	var stay []int
	for _, at := range p.lists[class] {
		if !slices.Contains(blocksOf(p.g, span, class), at) {
			stay = append(stay, at)
		}
	}
	p.lists[class] = stay
	p.heads[span] = free
	return api.OK
}

func (p *plain) free() []int {
	var l []int
	for class := range 4 {
		l = append(l, p.lists[class]...)
		for lane := range p.g.Lanes {
			l = append(l, p.caches[[2]int{lane, class}]...)
		}
	}
	slices.Sort(l)
	return l
}

// Which calls there are that turn a heap.
const (
	take = iota
	give
	refill
	drain
	carve
	makeLarge
	loose
	release
	kinds
)

// A call on a heap: its kind, and up to three numbers.
type call struct{ kind, a, b, c int }

// An answer is what a call tells.
type answer struct {
	n  int
	ok bool // of Take alone
}

// on does the call on a heap.
func (c call) on(h *heap.Heap) answer {
	switch c.kind {
	case take:
		at, ok := h.Take(c.a, c.b)
		return answer{at, ok}
	case refill:
		return answer{n: h.Refill(c.a, c.b)}
	case drain:
		return answer{n: h.Drain(c.a, c.b)}
	case carve:
		return answer{n: int(h.Carve(c.a, c.b))}
	case makeLarge:
		return answer{n: int(h.Large(c.a, c.b))}
	case loose:
		return answer{n: int(h.Loose(c.a))}
	case release:
		return answer{n: int(h.Release(c.a))}
	}
	h.Give(c.a, c.b, c.c)
	return answer{}
}

// do does the call on a plain heap.
func (c call) do(p *plain) answer {
	switch c.kind {
	case take:
		at, ok := p.take(c.a, c.b)
		return answer{at, ok}
	case refill:
		return answer{n: p.refill(c.a, c.b)}
	case drain:
		return answer{n: p.drain(c.a, c.b)}
	case carve:
		return answer{n: int(p.carve(c.a, c.b))}
	case makeLarge:
		return answer{n: int(p.large(c.a, c.b))}
	case loose:
		return answer{n: int(p.loose(c.a))}
	case release:
		return answer{n: int(p.release(c.a))}
	}
	p.give(c.a, c.b, c.c)
	return answer{}
}

// A pair is a heap, and the plain one to which the same was done.
type pair struct {
	t *testing.T
	h *heap.Heap
	p *plain
}

// made is a pair of a scene.
func made(t *testing.T, s scene) pair {
	t.Helper()
	x := unlooked(t, s)
	x.same("New")
	return x
}

// unlooked is a pair of a scene that isn't held against each other yet.
func unlooked(t *testing.T, s scene) pair {
	t.Helper()
	h := heap.New(s.g, s.heads, s.maps)
	if h == nil {
		t.Fatalf("New(%v): nil", s)
	}
	return pair{t, h, newPlain(s)}
}

// equal fails, if a list isn't the one that it should be.
func (x pair) equal(what, which any, got, want []int) {
	x.t.Helper()
	if !slices.Equal(got, want) {
		x.t.Fatalf("%v: %v: %v, not %v", what, which, got, want)
	}
}

// same holds all that a heap tells against what it should tell, and so whether it tells the same again.
func (x pair) same(what any) {
	x.t.Helper()
	for range 2 {
		if l := x.h.Heads(); !slices.Equal(l, x.p.heads) {
			x.t.Fatalf("%v: Heads: %v, not %v", what, l, x.p.heads)
		}
		for class := range 4 {
			x.equal(what, [2]any{"List", class}, x.h.List(class), x.p.lists[class])
			for lane := range x.p.g.Lanes {
				x.equal(what, [3]any{"Cache", lane, class}, x.h.Cache(lane, class), x.p.caches[[2]int{lane, class}])
			}
		}
		for many := -1; many <= 6; many++ {
			if span := x.h.Room(many); span != x.p.room(many) {
				x.t.Fatalf("%v: Room(%d): %d, not %d", what, many, span, x.p.room(many))
			}
		}
		if span := x.h.Empty(); span != x.p.empty() {
			x.t.Fatalf("%v: Empty: %d, not %d", what, span, x.p.empty())
		}
		x.equal(what, "Free", x.h.Free(), x.p.free())
	}
}

// both does a call on both, and holds them against each other, what they tell and what they are behind it.
func (x pair) both(c call) answer {
	x.t.Helper()
	got := x.unlooked(c)
	x.same(c)
	return got
}

// unlooked does a call on both, and holds only what they tell against each other.
func (x pair) unlooked(c call) answer {
	x.t.Helper()
	got, want := c.on(x.h), c.do(x.p)
	if got != want {
		x.t.Fatalf("%v: %v, not %v", c, got, want)
	}
	return got
}

// told does a call on both, which tells what is written beside it.
func (x pair) told(c call, want answer) {
	x.t.Helper()
	if got := x.both(c); got != want {
		x.t.Fatalf("%v: %v, not %v", c, got, want)
	}
}

// is holds a list against what is written beside it.
func (x pair) is(l []int, want ...int) {
	x.t.Helper()
	x.equal("told", "a list", l, want)
}

// gives lets so many blocks come to a cache, from a number on.
func (x pair) gives(lane, class, from, many int) {
	x.t.Helper()
	for i := range many {
		x.unlooked(call{give, lane, class, from + i})
	}
	x.same("given")
}

// chance tells numbers below one that look as if they were by chance, the same each time for the same seed.
func chance(seed uint64) func(below int) int {
	n := 0x2545f4914f6cdd1d + seed*0x9e3779b97f4a7c15
	return func(below int) int {
		n = n*6364136223846793005 + 1442695040888963407
		return int((n ^ n>>31) >> 11 % uint64(below))
	}
}

// mixedScene is a scene by chance, whose heads are as free, or as taken, as the seed has it.
func mixedScene(seed uint64) scene {
	below := chance(seed)
	var heads []api.Head
	for many := 1 + below(16); len(heads) < many; {
		switch below(4 + int(seed%3)) {
		case 0:
			heads = append(heads, small(below(4)))
		case 1:
			heads = append(heads, block(1+below(min(4, many-len(heads))))...)
		case 2:
			heads = append(heads, every()[below(12)])
		default:
			heads = append(heads, free)
		}
	}
	s := with(1+below(4), heads)
	s.g.Roots = 1 + below(8)
	for span := range s.maps {
		s.maps[span] = []uint64{0, math.MaxUint64, 1, uint64(below(1<<32)) << 16, uint64(below(1 << 32))}[below(5)]
	}
	return s
}

// mixedCall is a call by chance on a heap of a geometry, now and then with a wrong number.
func mixedCall(g api.Geometry, below func(int) int) call {
	c := call{kind: below(kinds)}
	switch c.kind {
	case take, give, refill, drain:
		c.a, c.b, c.c = below(g.Lanes), below(4), spanAt(g, below(g.Spans))+2*below(32)
		if below(50) == 0 {
			c.a = wrongs(g.Lanes)[below(len(wrongs(g.Lanes)))]
		}
	case carve:
		c.a, c.b = below(g.Spans), below(4)
	case makeLarge:
		c.a, c.b = below(g.Spans), 1+below(4)
	default:
		c.a = below(g.Spans)
	}
	if below(50) == 0 {
		c.b = wrongs(5)[below(len(wrongs(5)))]
	}
	if c.kind >= carve && below(50) == 0 {
		c.a = wrongs(g.Spans)[below(len(wrongs(g.Spans)))]
	}
	return c
}
