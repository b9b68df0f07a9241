package pool_test

import (
	"maps"
	"math"
	"slices"

	"trencher/api"
)

// What the tests hold the package against: objects that point to one another, as plainly as can be, with what each datum may be once power failed.

// The geometries that most is tried in: those at the edges, and some between.
var (
	least  = api.Geometry{Spans: 1, Lanes: 1, Roots: 1}
	middle = api.Geometry{Spans: 6, Lanes: 3, Roots: 4}
	most   = api.Geometry{Spans: 16, Lanes: 4, Roots: 8}
)

// few are some of them.
func few() []api.Geometry {
	return []api.Geometry{least, middle, most, {Spans: 2, Lanes: 1, Roots: 8}, {Spans: 3, Lanes: 4, Roots: 2}, {Spans: 9, Lanes: 2, Roots: 3}}
}

// everyGeometry are all that may be.
func everyGeometry() []api.Geometry {
	var l []api.Geometry
	for i := range 16 * 4 * 8 {
		l = append(l, api.Geometry{Spans: i/32 + 1, Lanes: i/8%4 + 1, Roots: i%8 + 1})
	}
	return l
}

// Where the parts of a region begin, and how many words it has.
func rootAt(i int) int                    { return 8 + i }
func laneAt(n int) int                    { return 16 + 40*n }
func headAt(g api.Geometry, span int) int { return 16 + 40*g.Lanes + 8*span }
func spanAt(g api.Geometry, span int) int { return 16 + 40*g.Lanes + 8*g.Spans + 64*span }
func total(g api.Geometry) int            { return 16 + 40*g.Lanes + 72*g.Spans }

// classOf is the class of an object of so many words, from 1 to 255.
func classOf(words int) int {
	class := 0
	for class < 4 && words >= 2<<class {
		class++
	}
	return class
}

// first is the first word of an object.
func first(refs, slots, words int) uint64 {
	return uint64(refs) + uint64(slots)*65536 + uint64(words)*65536*256
}

// root is the destination of a root, slot that of a slot, or of a datum.
func root(i int) api.Dest     { return api.Dest{Root: true, Index: i} }
func slot(at, i int) api.Dest { return api.Dest{Object: at, Index: i} }

// Calls, of the who 0.
func malloc(d api.Dest, words, slots int) api.Call {
	return api.Call{Kind: 1, Dest: d, Words: words, Slots: slots}
}
func free(d api.Dest) api.Call               { return api.Call{Kind: 2, Dest: d} }
func set(d api.Dest, target int) api.Call    { return api.Call{Kind: 3, Dest: d, Target: target} }
func get(d api.Dest) api.Call                { return api.Call{Kind: 4, Dest: d} }
func write(at, i int, x uint64) api.Call     { return api.Call{Kind: 5, Dest: slot(at, i), X: x} }
func read(at, i int) api.Call                { return api.Call{Kind: 6, Dest: slot(at, i)} }
func persist(at, i, many int) api.Call       { return api.Call{Kind: 7, Dest: slot(at, i), Many: many} }
func tx(edits ...api.Edit) api.Call          { return api.Call{Kind: 8, Edits: edits} }
func points(d api.Dest, target int) api.Edit { return api.Edit{Dest: d, Target: target} }
func writes(at, i int, x uint64) api.Edit    { return api.Edit{Data: true, Dest: slot(at, i), X: x} }
func by(who int, c api.Call) api.Call        { c.Who = who; return c }
func told(at int) api.Answer                 { return api.Answer{At: at} }
func word(x uint64) api.Answer               { return api.Answer{X: x} }
func wrong(code api.Errno) api.Answer        { return api.Answer{Code: code} }

// wrongs are numbers of which there are none where there are so many, counted from 0 on: those at the edges, and some of which the lowest bits alone would be right.
func wrongs(many int) []int {
	return []int{-1, many, -2, many + 1, -many - 1, many * 2, 64, -64, 255, 256, 65536, math.MaxInt32, math.MinInt32, 1 << 32, 1<<32 + many - 1, -1 << 32, math.MaxInt - 1, math.MaxInt, math.MinInt, math.MinInt + 1}
}

// chance makes what tells numbers below one that look as if they were by chance, the same each time.
func chance(seed int) func(below int) int {
	x := 0x2545f4914f6cdd1d + uint64(seed)*0x9e3779b97f4a7c15
	return func(below int) int {
		x = x*6364136223846793005 + 1442695040888963407
		return int((x ^ x>>31) >> 8 % uint64(below))
	}
}

// pickers make ways to pick what is kept, each the same each time that it is made; the last ones tell numbers that aren't there.
func pickers() []func() func(int) int {
	turns := func(f func(turn, many int) int) func() func(int) int {
		return func() func(int) int {
			turn := 0
			return func(many int) int { turn++; return f(turn, many) }
		}
	}
	return []func() func(int) int{
		turns(func(_, _ int) int { return 0 }),
		turns(func(_, many int) int { return many - 1 }),
		turns(func(turn, many int) int { return turn % 2 * (many - 1) }),
		turns(func(turn, many int) int { return turn % 3 % 2 * (many - 1) }),
		func() func(int) int { return chance(77) },
		func() func(int) int { return chance(78) },
		turns(func(turn, many int) int { return []int{-1, many, math.MaxInt, math.MinInt, many - 1}[turn%5] }),
		func() func(int) int { return nil },
	}
}

// thing is an object. Of each datum it has all that it may be once power failed; the last of these is what programs see.
type thing struct {
	slots []int
	data  [][]uint64
	refs  int
}

// words is how many words it has.
func (x *thing) words() int { return len(x.slots) + len(x.data) }

// plain is what there should be.
type plain struct {
	g      api.Geometry
	roots  []int
	things map[int]*thing
}

// blank is what there is at first.
func blank(g api.Geometry) *plain {
	return &plain{g, make([]int, g.Roots), map[int]*thing{}}
}

// clone is a copy.
func (p *plain) clone() *plain {
	c := &plain{p.g, slices.Clone(p.roots), map[int]*thing{}}
	for at, x := range p.things {
		y := &thing{slices.Clone(x.slots), slices.Clone(x.data), x.refs}
		for i := range y.data {
			y.data[i] = slices.Clone(y.data[i])
		}
		c.things[at] = y
	}
	return c
}

// addresses are those of the objects, rising.
func (p *plain) addresses() []int {
	return slices.Sorted(maps.Keys(p.things))
}

// dest is the pointer that stands at a destination; nil, if that isn't there.
func (p *plain) dest(d api.Dest) *int {
	l := p.roots
	if !d.Root {
		x := p.things[d.Object]
		if x == nil {
			return nil
		}
		l = x.slots
	}
	if d.Index < 0 || d.Index >= len(l) {
		return nil
	}
	return &l[d.Index]
}

// do does a call: its answer. The block of a new object is the one that it is told; full tells whether there is no room for one.
func (p *plain) do(c api.Call, full bool, block int) api.Answer {
	if c.Kind < 1 || c.Kind > 8 || c.Who < 0 || c.Who >= p.g.Lanes {
		return wrong(1)
	}
	switch c.Kind {
	case 1:
		return p.malloc(c, full, block)
	case 2:
		return p.free(c)
	case 3:
		was, code := p.point(c.Dest, c.Target)
		return api.Answer{Code: code, At: was}
	case 4:
		if cell := p.dest(c.Dest); cell != nil {
			return told(*cell)
		}
		return wrong(3)
	case 8:
		return p.tx(c)
	}
	return p.data(c)
}

// malloc is the first of the calls.
func (p *plain) malloc(c api.Call, full bool, block int) api.Answer {
	switch {
	case c.Slots < 0 || c.Slots > c.Words || c.Slots > 255:
		return wrong(1)
	case c.Words < 1 || c.Words > 255:
		return wrong(2)
	case c.Dest.Root && (c.Dest.Index < 0 || c.Dest.Index >= p.g.Roots):
		return wrong(3)
	case full:
		return wrong(9)
	}
	cell := p.dest(c.Dest)
	switch {
	case cell == nil:
		return wrong(3)
	case *cell != 0:
		return wrong(5)
	case !p.apart(block, c.Words):
		return wrong(-1) // it wasn't a new object's address
	}
	*cell = block
	x := &thing{make([]int, c.Slots), make([][]uint64, c.Words-c.Slots), 1}
	for i := range x.data {
		x.data[i] = []uint64{0}
	}
	p.things[block] = x
	return told(block)
}

// apart tells whether an object of so many words may begin there: its words, and its first word, are inside the heap, and no other object's.
func (p *plain) apart(at, words int) bool {
	if at < spanAt(p.g, 0) || at+words >= total(p.g) {
		return false
	}
	for a, x := range p.things {
		if at <= a+x.words() && a <= at+words {
			return false
		}
	}
	return true
}

// free is the second one.
func (p *plain) free(c api.Call) api.Answer {
	cell := p.dest(c.Dest)
	switch {
	case cell == nil:
		return wrong(3)
	case *cell == 0:
		return wrong(6)
	}
	at := *cell
	x := p.things[at]
	switch {
	case x.refs != 1:
		return wrong(7)
	case slices.ContainsFunc(x.slots, func(to int) bool { return to != 0 }):
		return wrong(8)
	}
	*cell = 0
	delete(p.things, at)
	return told(at)
}

// point lets a destination point to a target: what it pointed to.
func (p *plain) point(d api.Dest, target int) (int, api.Errno) {
	cell, next := p.dest(d), p.things[target]
	switch {
	case cell == nil:
		return 0, 3
	case target != 0 && next == nil:
		return 0, 4
	case *cell == target:
		return target, 0
	case target != 0 && next.refs == 65535:
		return 0, 10
	}
	was := *cell
	*cell = target
	if target != 0 {
		next.refs++
	}
	if was != 0 {
		p.things[was].refs--
	}
	return was, 0
}

// datum is a datum that an object has.
func (p *plain) datum(d api.Dest) (*[]uint64, api.Errno) {
	x := p.things[d.Object]
	switch {
	case x == nil:
		return nil, 4
	case d.Index < 0 || d.Index >= len(x.data):
		return nil, 13
	}
	return &x.data[d.Index], 0
}

// data are the calls on data.
func (p *plain) data(c api.Call) api.Answer {
	x, code := p.datum(c.Dest)
	if code != 0 {
		return wrong(code)
	}
	switch c.Kind {
	case 5:
		*x = append(*x, c.X)
	case 6:
		return word((*x)[len(*x)-1])
	case 7:
		l := p.things[c.Dest.Object].data[c.Dest.Index:]
		if c.Many < 1 || c.Many > len(l) {
			return wrong(13)
		}
		for i := range c.Many {
			l[i] = l[i][len(l[i])-1:]
		}
	}
	return api.Answer{}
}

// tx is a batch.
func (p *plain) tx(c api.Call) api.Answer {
	if len(c.Edits) < 1 || len(c.Edits) > 16 {
		return wrong(1)
	}
	next, turned := p.clone(), map[[3]int]bool{}
	for _, e := range c.Edits {
		if code := next.edit(e, turned); code != 0 {
			return wrong(code)
		}
	}
	if len(turned) > 16 {
		return wrong(10)
	}
	p.roots, p.things = next.roots, next.things
	return api.Answer{}
}

// edit does an edit, and notes the words that it turns: a root's, a first word's, a slot's, a datum's.
func (p *plain) edit(e api.Edit, turned map[[3]int]bool) api.Errno {
	if e.Data {
		x, code := p.datum(e.Dest)
		if code == 0 {
			*x = []uint64{e.X}
			turned[[3]int{3, e.Dest.Object, e.Dest.Index}] = true
		}
		return code
	}
	was, code := p.point(e.Dest, e.Target)
	if code != 0 || was == e.Target {
		return code
	}
	d := e.Dest
	if d.Root {
		turned[[3]int{0, 0, d.Index}] = true
	} else {
		turned[[3]int{2, d.Object, d.Index}] = true
	}
	for _, at := range []int{was, e.Target} {
		if at != 0 {
			turned[[3]int{1, at, 0}] = true
		}
	}
	return 0
}

// reached are the addresses of the objects that roots lead to.
func (p *plain) reached() map[int]bool {
	there := map[int]bool{0: true}
	todo := slices.Clone(p.roots)
	for len(todo) > 0 {
		at := todo[0]
		todo = todo[1:]
		if !there[at] {
			there[at] = true
			todo = append(todo, p.things[at].slots...)
		}
	}
	delete(there, 0)
	return there
}

// opened is what is left of the objects once the region is opened: what is reached, with Refs counted anew.
func (p *plain) opened() *plain {
	c := p.clone()
	there := c.reached()
	refs := map[int]int{}
	for _, at := range c.roots {
		refs[at]++
	}
	for at := range there {
		for _, to := range c.things[at].slots {
			refs[to]++
		}
	}
	maps.DeleteFunc(c.things, func(at int, _ *thing) bool { return !there[at] })
	for at, x := range c.things {
		x.refs = refs[at]
	}
	return c
}

// isImage tells whether an image is one of these objects and no others, each datum being what it may be, with nothing to be replayed.
func (p *plain) isImage(words []uint64) bool {
	for i, to := range p.roots {
		if words[rootAt(i)] != uint64(to) {
			return false
		}
	}
	for n := range p.g.Lanes {
		if words[laneAt(n)] != 0 {
			return false
		}
	}
	sets := make([]uint64, p.g.Spans)
	for at, x := range p.things {
		if !x.isAt(words[at:]) {
			return false
		}
		span, class := (at-spanAt(p.g, 0))/64, classOf(x.words())
		sets[span] |= 1 << ((at - spanAt(p.g, span)) / []int{2, 4, 8, 16, 64}[class])
	}
	for span, set := range sets {
		if words[headAt(p.g, span)+1] != set {
			return false
		}
	}
	return true
}

// isAt tells whether words begin with those of the object.
func (x *thing) isAt(words []uint64) bool {
	if words[0] != first(x.refs, len(x.slots), x.words()) {
		return false
	}
	for i, to := range x.slots {
		if words[1+i] != uint64(to) {
			return false
		}
	}
	for i, may := range x.data {
		if !slices.Contains(may, words[1+len(x.slots)+i]) {
			return false
		}
	}
	return true
}

// settled lets each datum be what it is in an image, for sure.
func (p *plain) settled(words []uint64) {
	for at, x := range p.things {
		for i := range x.data {
			x.data[i] = []uint64{words[at+1+len(x.slots)+i]}
		}
	}
}
