package deeds_test

import (
	"maps"
	"math"
	"slices"

	"trencher/api"
	"trencher/head"
	"trencher/heap"
	"trencher/pmem"
)

// What the tests hold the package against: objects that point to one another, as plainly as can be, and beside them a region and a heap of their own, to which is done what the chapter says of each call.

// The geometries that most is tried in: those at the edges, and some between.
var (
	least  = api.Geometry{Spans: 1, Lanes: 1, Roots: 1}
	middle = api.Geometry{Spans: 6, Lanes: 3, Roots: 4}
	most   = api.Geometry{Spans: 16, Lanes: 4, Roots: 8}
)

// Where the parts of a region begin, and how many words it has.
func rootAt(i int) int                    { return 8 + i }
func laneAt(n int) int                    { return 16 + 40*n }
func entryAt(n, i int) int                { return 24 + 40*n + 2*i }
func headAt(g api.Geometry, span int) int { return 16 + 40*g.Lanes + 8*span }
func spanAt(g api.Geometry, span int) int { return 16 + 40*g.Lanes + 8*g.Spans + 64*span }
func total(g api.Geometry) int            { return 16 + 40*g.Lanes + 72*g.Spans }

// isEntry tells whether an address is one of a lane's entries' words.
func isEntry(g api.Geometry, at int) bool {
	return at >= laneAt(0) && at < laneAt(g.Lanes) && (at-laneAt(0))%40 >= 8
}

// classOf is the class of an object of so many words, from 1 to 255.
func classOf(words int) int {
	class := 0
	for class < 4 && words >= 2<<class {
		class++
	}
	return class
}

// blocksIn are where a span's blocks of a class from 0 to 3 begin, rising.
func blocksIn(g api.Geometry, span, class int) []int {
	var l []int
	for off := 0; off < 64; off += 2 << class {
		l = append(l, spanAt(g, span)+off)
	}
	return l
}

// first is the first word of an object.
func first(refs, slots, words int) uint64 {
	return uint64(refs) + uint64(slots)*65536 + uint64(words)*65536*256
}

// headWord is the word of a head that may be.
func headWord(kind, class, many int) uint64 {
	x, ok := head.Word(api.Head{Kind: kind, Class: class, Many: many})
	if !ok {
		panic("no head")
	}
	return x
}

// root is the destination of a root, slot that of a slot; datum is where a datum is.
func root(i int) api.Dest      { return api.Dest{Root: true, Index: i} }
func slot(at, i int) api.Dest  { return api.Dest{Object: at, Index: i} }
func datum(at, i int) api.Dest { return slot(at, i) }

// Calls, of the who 0.
func malloc(d api.Dest, words, slots int) api.Call {
	return api.Call{Kind: 1, Dest: d, Words: words, Slots: slots}
}
func free(d api.Dest) api.Call               { return api.Call{Kind: 2, Dest: d} }
func set(d api.Dest, target int) api.Call    { return api.Call{Kind: 3, Dest: d, Target: target} }
func get(d api.Dest) api.Call                { return api.Call{Kind: 4, Dest: d} }
func write(at, i int, x uint64) api.Call     { return api.Call{Kind: 5, Dest: datum(at, i), X: x} }
func read(at, i int) api.Call                { return api.Call{Kind: 6, Dest: datum(at, i)} }
func persist(at, i, many int) api.Call       { return api.Call{Kind: 7, Dest: datum(at, i), Many: many} }
func tx(edits ...api.Edit) api.Call          { return api.Call{Kind: 8, Edits: edits} }
func points(d api.Dest, target int) api.Edit { return api.Edit{Dest: d, Target: target} }
func writes(at, i int, x uint64) api.Edit    { return api.Edit{Data: true, Dest: datum(at, i), X: x} }
func by(who int, c api.Call) api.Call        { c.Who = who; return c }
func told(at int) api.Answer                 { return api.Answer{At: at} }
func word(x uint64) api.Answer               { return api.Answer{X: x} }
func wrong(code api.Errno) api.Answer        { return api.Answer{Code: code} }

// wrongs are numbers of which there are none where there are so many, counted from 0 on: those at the edges, and some of which the lowest bits alone would be right.
func wrongs(many int) []int {
	return []int{-1, many, -2, many + 1, -many - 1, many * 2, many * -2, 64, -64, 255, 256, 65536, math.MaxInt32, math.MinInt32, 1 << 32, 1<<32 + many - 1, -1 << 32, math.MaxInt - 1, math.MaxInt, math.MinInt, math.MinInt + 1}
}

// chance makes what tells numbers below one that look as if they were by chance, the same each time.
func chance(seed int) func(below int) int {
	x := 0x2545f4914f6cdd1d + uint64(seed)*0x9e3779b97f4a7c15
	return func(below int) int {
		x = x*6364136223846793005 + 1442695040888963407
		return int((x ^ x>>31) >> 8 % uint64(below))
	}
}

// thing is an object.
type thing struct {
	slots []int
	data  []uint64
	refs  int
}

// words is how many words it has.
func (x *thing) words() int { return len(x.slots) + len(x.data) }

// first is its first word.
func (x *thing) first() uint64 { return first(x.refs, len(x.slots), x.words()) }

// plain is what there should be. Without a heap of its own it takes the blocks that the calls told.
type plain struct {
	g      api.Geometry
	roots  []int
	things map[int]*thing
	heap   *heap.Heap
	region *pmem.Region
	log    map[int]uint64 // what the last call published
}

// clone is a copy of the objects, and of nothing else.
func (p *plain) clone() *plain {
	c := &plain{g: p.g, roots: slices.Clone(p.roots), things: map[int]*thing{}, log: maps.Clone(p.log)}
	for at, x := range p.things {
		c.things[at] = &thing{slices.Clone(x.slots), slices.Clone(x.data), x.refs}
	}
	return c
}

// addresses are those of the objects, rising.
func (p *plain) addresses() []int {
	return slices.Sorted(maps.Keys(p.things))
}

// dest is the pointer that stands at a destination, and its address; nil, if the destination isn't there.
func (p *plain) dest(d api.Dest) (*int, int) {
	l, at := p.roots, rootAt(0)
	if !d.Root {
		x := p.things[d.Object]
		if x == nil {
			return nil, 0
		}
		l, at = x.slots, d.Object+1
	}
	if d.Index < 0 || d.Index >= len(l) {
		return nil, 0
	}
	return &l[d.Index], at + d.Index
}

// spanOf is which span an address is in.
func (p *plain) spanOf(at int) int { return (at - spanAt(p.g, 0)) / 64 }

// mapOf is the address of the map that has the bit of a block, and that bit.
func (p *plain) mapOf(at, class int) (int, uint64) {
	span := p.spanOf(at)
	if class == 4 {
		return headAt(p.g, span) + 1, 1
	}
	return headAt(p.g, span) + 1, 1 << ((at - spanAt(p.g, span)) / (2 << class))
}

// kept stores words and keeps them, if there is a region.
func (p *plain) kept(words map[int]uint64) {
	if p.region == nil {
		return
	}
	for at, x := range words {
		p.region.Store(at, x)
		p.region.Flush(at)
	}
	p.region.Fence()
}

// published is as kept, by a log.
func (p *plain) published(words map[int]uint64) {
	p.log = words
	if len(words) > 0 {
		p.kept(words)
	}
}

// seen is the word at an address; 0 without a region.
func (p *plain) seen(at int) uint64 {
	x, _ := p.region.Load(at)
	return x
}

// do does a call: its answer. Without a heap the one that is handed in tells which block is taken, or that there is none.
func (p *plain) do(c api.Call, as api.Answer) api.Answer {
	p.log = nil
	if c.Kind < 1 || c.Kind > 8 || c.Who < 0 || c.Who >= p.g.Lanes {
		return wrong(1)
	}
	switch c.Kind {
	case 1:
		return p.malloc(c, as)
	case 2:
		return p.free(c)
	case 3:
		words := map[int]uint64{}
		was, code := p.point(c.Dest, c.Target, words)
		if code != 0 {
			return wrong(code)
		}
		p.published(words)
		return told(was)
	case 4:
		cell, _ := p.dest(c.Dest)
		if cell == nil {
			return wrong(3)
		}
		return told(*cell)
	case 8:
		return p.tx(c)
	}
	return p.data(c)
}

// block is one for an object of a class from 0 to 3; false without.
func (p *plain) block(who, class int) (int, bool) {
	if at, ok := p.heap.Take(who, class); ok {
		return at, true
	}
	if p.heap.Refill(who, class) == 0 {
		span := p.heap.Room(1)
		if span < 0 {
			return 0, false
		}
		p.kept(map[int]uint64{headAt(p.g, span): headWord(1, class, 0)})
		p.heap.Carve(span, class)
		p.heap.Refill(who, class)
	}
	return p.heap.Take(who, class)
}

// begins is where an object of so many words may begin; false without.
func (p *plain) begins(c api.Call, as api.Answer) (int, bool) {
	if p.heap == nil {
		return as.At, as.Code != 9
	}
	if class := classOf(c.Words); class < 4 {
		return p.block(c.Who, class)
	}
	span := p.heap.Room(c.Words/64 + 1)
	return spanAt(p.g, span), span >= 0
}

// malloc is the first of the calls.
func (p *plain) malloc(c api.Call, as api.Answer) api.Answer {
	switch {
	case c.Slots < 0 || c.Slots > c.Words || c.Slots > 255:
		return wrong(1)
	case c.Words < 1 || c.Words > 255:
		return wrong(2)
	case c.Dest.Root && (c.Dest.Index < 0 || c.Dest.Index >= p.g.Roots):
		return wrong(3)
	}
	at, ok := p.begins(c, as)
	if !ok {
		return wrong(9)
	}
	class := classOf(c.Words)
	cell, to := p.dest(c.Dest)
	if cell == nil || *cell != 0 {
		if class < 4 && p.heap != nil {
			p.heap.Give(c.Who, class, at)
		}
		if cell == nil {
			return wrong(3)
		}
		return wrong(5)
	}
	*cell = at
	p.things[at] = &thing{make([]int, c.Slots), make([]uint64, c.Words-c.Slots), 1}
	if p.region == nil {
		return told(at)
	}
	blank := map[int]uint64{}
	for i := range c.Words {
		blank[at+1+i] = 0
	}
	p.kept(blank)
	set, bit := p.mapOf(at, class)
	words := map[int]uint64{to: uint64(at), at: p.things[at].first(), set: p.seen(set) | bit}
	if class == 4 {
		span, many := p.spanOf(at), c.Words/64+1
		p.heap.Large(span, many)
		words[headAt(p.g, span)] = headWord(2, 4, many)
		for i := 1; i < many; i++ {
			words[headAt(p.g, span+i)] = headWord(3, 4, i)
		}
	}
	p.published(words)
	return told(at)
}

// free is the second one.
func (p *plain) free(c api.Call) api.Answer {
	cell, to := p.dest(c.Dest)
	switch {
	case cell == nil:
		return wrong(3)
	case *cell == 0:
		return wrong(6)
	}
	at := *cell
	x := p.things[at]
	switch {
	case x.refs != 1:
		return wrong(7)
	case slices.ContainsFunc(x.slots, func(to int) bool { return to != 0 }):
		return wrong(8)
	}
	*cell = 0
	delete(p.things, at)
	if p.region == nil {
		return told(at)
	}
	class := classOf(x.words())
	set, bit := p.mapOf(at, class)
	words := map[int]uint64{to: 0, at: 0, set: p.seen(set) &^ bit}
	span := p.spanOf(at)
	if class == 4 {
		for i := range x.words()/64 + 1 {
			words[headAt(p.g, span+i)] = 0
		}
	}
	p.published(words)
	if class == 4 {
		p.heap.Loose(span)
	} else {
		p.given(c.Who, class, at)
	}
	return told(at)
}

// given lets a block that is free come to a cache, which is drained, if it has too many.
func (p *plain) given(who, class, at int) {
	p.heap.Give(who, class, at)
	if len(p.heap.Cache(who, class)) <= 8 {
		return
	}
	p.heap.Drain(who, class)
	if span := p.heap.Empty(); span >= 0 {
		p.heap.Release(span)
		p.kept(map[int]uint64{headAt(p.g, span): 0})
	}
}

// point lets a destination point to a target: what it pointed to. The words that become others by that are put to those that are handed in.
func (p *plain) point(d api.Dest, target int, words map[int]uint64) (int, api.Errno) {
	cell, to := p.dest(d)
	next := p.things[target]
	switch {
	case cell == nil:
		return 0, 3
	case target != 0 && next == nil:
		return 0, 4
	case *cell == target:
		return target, 0
	case target != 0 && next.refs == 65535:
		return 0, 10
	}
	was := *cell
	*cell = target
	words[to] = uint64(target)
	if target != 0 {
		next.refs++
		words[target] = next.first()
	}
	if was != 0 {
		p.things[was].refs--
		words[was] = p.things[was].first()
	}
	return was, 0
}

// datum is a datum that an object has, and its address.
func (p *plain) datum(d api.Dest) (*uint64, int, api.Errno) {
	x := p.things[d.Object]
	switch {
	case x == nil:
		return nil, 0, 4
	case d.Index < 0 || d.Index >= len(x.data):
		return nil, 0, 13
	}
	return &x.data[d.Index], d.Object + 1 + len(x.slots) + d.Index, 0
}

// data are the calls on data.
func (p *plain) data(c api.Call) api.Answer {
	x, at, code := p.datum(c.Dest)
	if code != 0 {
		return wrong(code)
	}
	switch c.Kind {
	case 5:
		*x = c.X
		if p.region != nil {
			p.region.Store(at, c.X)
		}
	case 6:
		return word(*x)
	case 7:
		if there := len(p.things[c.Dest.Object].data) - c.Dest.Index; c.Many < 1 || c.Many > there {
			return wrong(13)
		}
		if p.region != nil {
			for i := range c.Many {
				p.region.Flush(at + i)
			}
			p.region.Fence()
		}
	}
	return api.Answer{}
}

// tx is a batch.
func (p *plain) tx(c api.Call) api.Answer {
	if len(c.Edits) < 1 || len(c.Edits) > 16 {
		return wrong(1)
	}
	next, words := p.clone(), map[int]uint64{}
	for _, e := range c.Edits {
		if !e.Data {
			if _, code := next.point(e.Dest, e.Target, words); code != 0 {
				return wrong(code)
			}
			continue
		}
		x, at, code := next.datum(e.Dest)
		if code != 0 {
			return wrong(code)
		}
		*x, words[at] = e.X, e.X
	}
	if len(words) > 16 {
		return wrong(10)
	}
	p.roots, p.things = next.roots, next.things
	p.published(words)
	return api.Answer{}
}

// reached are the addresses of the objects that roots lead to.
func (p *plain) reached() map[int]bool {
	there := map[int]bool{0: true}
	todo := slices.Clone(p.roots)
	for len(todo) > 0 {
		at := todo[0]
		todo = todo[1:]
		if !there[at] {
			there[at] = true
			todo = append(todo, p.things[at].slots...)
		}
	}
	delete(there, 0)
	return there
}

// opened is what is left of the objects once the region is opened: what is reached, with Refs counted anew.
func (p *plain) opened() *plain {
	c := p.clone()
	there := c.reached()
	refs := map[int]int{}
	for _, at := range c.roots {
		refs[at]++
	}
	for at := range there {
		for _, to := range c.things[at].slots {
			refs[to]++
		}
	}
	maps.DeleteFunc(c.things, func(at int, _ *thing) bool { return !there[at] })
	for at, x := range c.things {
		x.refs = refs[at]
	}
	return c
}
