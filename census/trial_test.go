package census_test

import (
	"maps"
	"math"
	"slices"
	"testing"

	"trencher/api"
	"trencher/census"
	"trencher/deeds"
	"trencher/env"
	"trencher/pool"
)

// root is the destination of a root, slot that of a slot, or of a datum.
func root(i int) api.Dest     { return api.Dest{Root: true, Index: i} }
func slot(at, i int) api.Dest { return api.Dest{Object: at, Index: i} }

// thing is an object of the plain model: what its slots point to, and how many words it has.
type thing struct {
	slots []int
	words int
}

// plain is what a pool should have: its roots, and its objects, those that were left behind, too.
type plain struct {
	roots  []int
	things map[int]*thing
}

// pointers is the list that a destination is of.
func (p *plain) pointers(d api.Dest) []int {
	if d.Root {
		return p.roots
	}
	return p.things[d.Object].slots
}

// reached are the objects that roots lead to.
func (p *plain) reached() map[int]bool {
	there := map[int]bool{}
	todo := slices.Clone(p.roots)
	for len(todo) > 0 {
		at := todo[0]
		todo = todo[1:]
		if x := p.things[at]; x != nil && !there[at] {
			there[at] = true
			todo = append(todo, x.slots...)
		}
	}
	return there
}

// did does what a call did, that told no error.
func (p *plain) did(c api.Call, a api.Answer) {
	switch c.Kind {
	case 1:
		p.pointers(c.Dest)[c.Dest.Index] = a.At
		p.things[a.At] = &thing{make([]int, c.Slots), c.Words}
	case 2:
		p.pointers(c.Dest)[c.Dest.Index] = 0
		delete(p.things, a.At)
	case 3:
		p.pointers(c.Dest)[c.Dest.Index] = c.Target
	case 8:
		for _, e := range c.Edits {
			if !e.Data {
				p.pointers(e.Dest)[e.Dest.Index] = e.Target
			}
		}
	}
}

// opened forgets what isn't reached.
func (p *plain) opened() {
	there := p.reached()
	maps.DeleteFunc(p.things, func(at int, _ *thing) bool { return !there[at] })
}

// A trial is a pool, beside a plain model in which the same calls are done.
type trial struct {
	t     *testing.T
	g     api.Geometry
	pool  *pool.Pool
	plain *plain
}

// formatted is a trial of a pool that was formatted just now.
func formatted(t *testing.T, g api.Geometry) *trial {
	t.Helper()
	p := pool.Format(g)
	if p == nil {
		t.Fatalf("%v: none", g)
	}
	return &trial{t, g, p, &plain{make([]int, g.Roots), map[int]*thing{}}}
}

// words are what programs see.
func (tr *trial) words() []uint64 { return tr.pool.Region().Seen() }

// sound checks that a pool of which no call is under way is right, and tells of it what its words and its heap do: that.
func (tr *trial) sound(what any) known {
	tr.t.Helper()
	words, h := tr.words(), tr.pool.Heap()
	k := agrees(tr.t, what, tr.g, words, h)
	if !census.Right(words, h) || k.count[3] != 0 || k.count[4] != 0 {
		tr.t.Fatalf("%v: %v", what, k)
	}
	if got := census.Of(tr.pool); got != k.count {
		tr.t.Fatalf("%v: %v, not %v", what, got, k.count)
	}
	if s := tr.pool.Stats(); s.Objects != k.count[0] || s.Garbage != k.count[1] || s.Free != k.count[2] {
		tr.t.Fatalf("%v: %v beside %+v", what, k.count, s)
	}
	return k
}

// right checks that each block is what the plain model has there: an object that lives, one that was left behind, or nothing.
func (tr *trial) right(what any) known {
	tr.t.Helper()
	k := tr.sound(what)
	there, met := tr.plain.reached(), 0
	use := make([]int, tr.g.Spans)
	for i, b := range blocksOf(tr.g, tr.words()) {
		state := api.BlockFree
		if x := tr.plain.things[b.at]; x != nil {
			met++
			state = api.BlockGarbage
			if there[b.at] {
				state = api.BlockLive
				for a := b.at; a <= b.at+x.words; a++ {
					use[(a-spanAt(tr.g, 0))/64]++
				}
			}
			if x.words >= b.words {
				tr.t.Fatalf("%v: %d words at %d, in a block of %d", what, x.words, b.at, b.words)
			}
		}
		if k.begins[i] != b.at || k.states[i] != state {
			tr.t.Fatalf("%v: the block at %d is %d, that at %d should be %d", what, k.begins[i], k.states[i], b.at, state)
		}
	}
	if met != len(tr.plain.things) || !slices.Equal(k.use, use) {
		tr.t.Fatalf("%v: %d of %d objects are in blocks; use %v, not %v", what, met, len(tr.plain.things), k.use, use)
	}
	return k
}

// Ways to do a call.
const (
	atOnce = iota // by Do
	begun         // by Begin and all steps of its run
	stepwise
	ways
)

// done does a call on a pool, in some way.
func done(p *pool.Pool, way int, c api.Call) api.Answer {
	if way == atOnce {
		return p.Do(c)
	}
	x := p.Begin(c)
	for way == stepwise && x.Step() == env.Stepped {
	}
	x.All(-1)
	return deeds.Answer(x.Answer())
}

// do does a call in some way, and checks what is there behind it.
func (tr *trial) do(way int, c api.Call) api.Answer {
	tr.t.Helper()
	a := done(tr.pool, way, c)
	if a.Code == api.OK {
		tr.plain.did(c, a)
	}
	tr.right(c)
	return a
}

// does does calls, all of which should be done.
func (tr *trial) does(l ...api.Call) {
	tr.t.Helper()
	for _, c := range l {
		if a := tr.do(atOnce, c); a.Code != api.OK {
			tr.t.Fatalf("%+v: %d", c, a.Code)
		}
	}
}

// makes lets a new object begin: its address.
func (tr *trial) makes(d api.Dest, words, slots int) int {
	tr.t.Helper()
	a := tr.do(atOnce, api.Call{Kind: 1, Dest: d, Words: words, Slots: slots})
	if a.Code != api.OK {
		tr.t.Fatalf("%v, %d words: %d", d, words, a.Code)
	}
	return a.At
}

// rose checks what is there behind opening: nothing is garbage, and each whole span has an object that lives.
func (tr *trial) rose(what any) known {
	tr.t.Helper()
	k := tr.sound(what)
	if k.count[1] != 0 {
		tr.t.Fatalf("%v: garbage behind opening: %v", what, k.count)
	}
	lives := map[int]int{}
	for i, at := range k.begins {
		if k.states[i] == api.BlockLive {
			lives[(at-spanAt(tr.g, 0))/64]++
		}
	}
	for _, at := range k.begins {
		if lives[(at-spanAt(tr.g, 0))/64] == 0 {
			tr.t.Fatalf("%v: nothing lives in the span of %d", what, at)
		}
	}
	return k
}

// fails lets power fail, by FailIn where there are fuses, and checks what is there then.
func (tr *trial) fails(pick func(many int) int, fuses ...int) {
	tr.t.Helper()
	code := api.Errno(0)
	if len(fuses) > 0 {
		code = tr.pool.FailIn(fuses, pick)
	} else {
		code = tr.pool.Fail(pick)
	}
	if code != api.OK {
		tr.t.Fatalf("power failed: %d", code)
	}
	tr.plain.opened()
	tr.right("behind power that failed")
	tr.rose("behind power that failed")
}

// pickers are ways to pick what is kept.
func pickers() []func(many int) int {
	turn := 0
	return []func(many int) int{
		nil,
		func(many int) int { return many - 1 },
		func(many int) int { turn++; return turn % many },
		chance(77),
		func(many int) int { return many },
	}
}

// caller makes calls of all kinds, right and wrong, that look as if they were by chance, of what objects there are.
type caller struct {
	next    func(below int) int
	g       api.Geometry
	objects []int
	slots   func(at int) int // how many an object has
}

// wrong is a number that may be wrong.
func (m *caller) wrong() int {
	return []int{-1, 0, 1, 5, 8, 64, 255, 256, spanAt(m.g, 0) + m.next(64*m.g.Spans), 1 << 32, math.MaxInt, math.MinInt}[m.next(12)]
}

// at is an object's address, mostly.
func (m *caller) at() int {
	if len(m.objects) == 0 || m.next(15) == 0 {
		return m.wrong()
	}
	return m.objects[m.next(len(m.objects))]
}

// dest is a destination, mostly one that there is.
func (m *caller) dest() api.Dest {
	if m.next(15) == 0 {
		return api.Dest{Root: m.next(2) == 0, Object: m.at(), Index: m.wrong()}
	}
	if m.next(3) > 0 {
		if at := m.at(); slices.Contains(m.objects, at) && m.slots(at) > 0 {
			return slot(at, m.next(m.slots(at)))
		}
	}
	return root(m.next(m.g.Roots))
}

// target is what a pointer may be set to.
func (m *caller) target() int {
	if m.next(3) == 0 {
		return 0
	}
	return m.at()
}

// edits are those of a batch.
func (m *caller) edits() []api.Edit {
	var l []api.Edit
	for range m.next(5) + m.next(40)/36*12 {
		if m.next(3) == 0 {
			l = append(l, api.Edit{Data: true, Dest: slot(m.at(), m.next(4)), X: uint64(m.next(99))})
		} else {
			l = append(l, api.Edit{Dest: m.dest(), Target: m.target()})
		}
	}
	return l
}

// call is a call of some who.
func (m *caller) call() api.Call {
	c := api.Call{Kind: []int{1, 1, 1, 1, 1, 2, 2, 2, 3, 3, 4, 5, 6, 7, 8, 8, m.wrong()}[m.next(17)], Who: m.next(m.g.Lanes), Dest: m.dest()}
	switch c.Kind {
	case 1:
		c.Words = []int{1, 1, 2, 3, 3, 4, 7, 8, 15, 15, 16, 63, 64, 127, 128, 191, 192, 255, m.wrong()}[min(m.next(19), m.next(19))]
		c.Slots = min(c.Words, m.next(5)) + m.next(30)/29*300
	case 3:
		c.Target = m.target()
	case 5, 6, 7:
		c.Dest, c.X, c.Many = slot(m.at(), m.next(5)), uint64(m.next(9)), m.next(4)
	case 8:
		c.Edits = m.edits()
	}
	if m.next(30) == 0 {
		c.Who = m.wrong()
	}
	return c
}

// script does so many calls by chance, each in some way.
func (tr *trial) script(next func(below int) int, calls int) {
	tr.t.Helper()
	for range calls {
		m := &caller{next, tr.g, slices.Sorted(maps.Keys(tr.plain.things)), func(at int) int { return len(tr.plain.things[at].slots) }}
		tr.do(next(ways), m.call())
	}
}
