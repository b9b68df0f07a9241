package pool_test

import (
	"slices"
	"testing"

	"trencher/addr"
	"trencher/api"
	"trencher/deeds"
	"trencher/env"
	"trencher/heap"
	"trencher/image"
	"trencher/locks"
	"trencher/mark"
	"trencher/open"
	"trencher/pmem"
	"trencher/pool"
)

// A hand has what a pool should have, and does what that should do, by the layers below alone.
type hand struct {
	g      api.Geometry
	region *pmem.Region
	heap   *heap.Heap
	locks  *locks.Table
}

// byHand has a region of an image, which isn't opened.
func byHand(words []uint64) *hand {
	h := &hand{region: pmem.Of(words), locks: locks.New(2)}
	h.g, h.heap, _ = open.Heap(words)
	return h
}

// run is that of a call.
func (h *hand) run(c api.Call) *env.Run {
	return env.New(h.region, h.locks, c.Who, deeds.Deed(h.g, h.heap, c))
}

// do does a call.
func (h *hand) do(c api.Call) api.Answer {
	x := h.run(c)
	x.All(-1)
	return deeds.Answer(x.Answer())
}

// lost lets power fail, and no more.
func (h *hand) lost(pick func(int) int) {
	h.region.Crash(pick)
	h.locks.Drop()
}

// opened opens the region, by so many steps at most (below 0: any number).
func (h *hand) opened(fuse int) api.Errno {
	x := env.New(h.region, h.locks, 0, open.Deed(h.region.Size()))
	x.All(fuse)
	if !x.Over() || x.Answer()[0] != 0 {
		return 11
	}
	h.g, h.heap, _ = open.Heap(h.region.Seen())
	return 0
}

// fails lets power fail, and again behind so many steps of opening as each fuse tells.
func (h *hand) fails(pick func(int) int, fuses ...int) api.Errno {
	h.lost(pick)
	for _, fuse := range fuses {
		h.opened(fuse)
		h.lost(pick)
	}
	return h.opened(-1)
}

// shelves has what a heap has in its lists, and in its caches behind them.
func shelves(g api.Geometry, h *heap.Heap) [][]int {
	var l [][]int
	for class := range 4 {
		l = append(l, h.List(class))
	}
	for who := range g.Lanes {
		for class := range 4 {
			l = append(l, h.Cache(who, class))
		}
	}
	return l
}

// owners are who have the locks of a table.
func owners(l *locks.Table) [2]int {
	return [2]int{l.Owner(0), l.Owner(1)}
}

// hasHeap checks that a pool has a heap like another one.
func hasHeap(t *testing.T, what any, p *pool.Pool, h *heap.Heap) {
	t.Helper()
	g := p.Geometry()
	if got, want := p.Heap().Heads(), h.Heads(); !slices.Equal(got, want) {
		t.Fatalf("%v: heads %v, not %v", what, got, want)
	}
	if got, want := shelves(g, p.Heap()), shelves(g, h); !slices.EqualFunc(got, want, slices.Equal[[]int]) {
		t.Fatalf("%v: lists and caches %v, not %v", what, got, want)
	}
}

// differ is the first address at which words differ; -1, if they don't.
func differ(a, b []uint64) int {
	for i := range max(len(a), len(b)) {
		if i >= len(a) || i >= len(b) || a[i] != b[i] {
			return i
		}
	}
	return -1
}

// like checks that a pool has all that it should have by hand, but lines that are pending.
func like(t *testing.T, what any, p *pool.Pool, h *hand) {
	t.Helper()
	if g := p.Geometry(); g != h.g {
		t.Fatalf("%v: geometry %v, not %v", what, g, h.g)
	}
	if a := differ(p.Region().Seen(), h.region.Seen()); a >= 0 {
		t.Fatalf("%v: programs see another word at %d", what, a)
	}
	if a := differ(p.Region().Kept(), h.region.Kept()); a >= 0 {
		t.Fatalf("%v: another word is kept at %d", what, a)
	}
	if got, want := p.Region().Steps(), h.region.Steps(); got != want {
		t.Fatalf("%v: %d steps, not %d", what, got, want)
	}
	if got, want := owners(p.Locks()), owners(h.locks); got != want || p.Locks().Taken() != h.locks.Taken() || p.Locks().Len() != 2 {
		t.Fatalf("%v: %v have the locks, not %v; %d were taken, not %d", what, got, want, p.Locks().Taken(), h.locks.Taken())
	}
	hasHeap(t, what, p, h.heap)
	if got, want := p.Stats(), counted(h.g, h.region.Seen(), h.heap, h.region.Steps()); got != want {
		t.Fatalf("%v: stats %+v, not %+v", what, got, want)
	}
}

// counted are the stats, as they are counted by hand.
func counted(g api.Geometry, words []uint64, h *heap.Heap, steps int64) api.Stats {
	s := api.Stats{Free: len(h.Free()), Garbage: mark.Garbage(g, words), Steps: steps}
	for _, head := range h.Heads() {
		if head == (api.Head{}) {
			s.Spans++
		}
	}
	live, _ := mark.Reach(g, words)
	for _, l := range live {
		s.Objects, s.Words = s.Objects+1, s.Words+l.Object.Words
	}
	return s
}

// census checks that each block is an object's or free, just once, where garbage is, or isn't, one.
func census(t *testing.T, what any, p *pool.Pool, garbage bool) {
	t.Helper()
	g, words := p.Geometry(), p.Region().Seen()
	heads, code := image.Heads(g, words)
	if code != 0 || !slices.Equal(heads, p.Heap().Heads()) {
		t.Fatalf("%v: heads %v, not %v", what, heads, p.Heap().Heads())
	}
	live, code := mark.Reach(g, words)
	n := mark.Garbage(g, words)
	if code != 0 || n < 0 || n > 0 && !garbage {
		t.Fatalf("%v: %d, %d of garbage", what, code, n)
	}
	blocks := p.Heap().Free()
	for _, l := range live {
		blocks = append(blocks, l.At)
	}
	slices.Sort(blocks)
	all := addr.All(g, heads)
	if len(blocks) != len(all)-n || len(slices.Compact(blocks)) != len(all)-n {
		t.Fatalf("%v: %d blocks are objects' or free, %d are garbage, and there are %d", what, len(blocks), n, len(all))
	}
	for _, at := range blocks {
		if _, there := slices.BinarySearch(all, at); !there {
			t.Fatalf("%v: %d is no block", what, at)
		}
	}
}

// Ways to do a call.
const (
	atOnce = iota // by Do
	begun         // by Begin and all steps of its run
	stepwise
	byName // as far as there is a name for it
	ways
)

// done does a call on a pool, in some way.
func done(t *testing.T, p *pool.Pool, way int, c api.Call) api.Answer {
	t.Helper()
	switch way {
	case atOnce:
		return p.Do(c)
	case byName:
		return named(p, c)
	}
	steps := p.Region().Steps()
	x := p.Begin(c)
	if x == nil || x.Steps() != 0 || x.Over() || len(x.Answer()) > 0 || p.Region().Steps() != steps {
		t.Fatalf("%+v: something was done at its beginning", c)
	}
	if way == begun {
		if code := x.All(-1); code != 0 {
			t.Fatalf("%+v: %d", c, code)
		}
	}
	for n := 0; !x.Over(); n++ {
		if s := x.Step(); s == env.Blocked || s == env.Stepped && x.Steps() != n+1 || n > 2000 {
			t.Fatalf("%+v: step %d: %d", c, n, s)
		}
	}
	if len(x.Answer()) != 3 {
		t.Fatalf("%+v: %v", c, x.Answer())
	}
	return deeds.Answer(x.Answer())
}

// named does a call by its name, if it has one that can do it.
func named(p *pool.Pool, c api.Call) api.Answer {
	if c.Who != 0 {
		return p.Do(c)
	}
	d := c.Dest
	a := api.Answer{}
	switch {
	case c.Kind == 1:
		a.At, a.Code = p.MallocTo(d, c.Words, c.Slots)
	case c.Kind == 2:
		a.At, a.Code = p.FreeFrom(d)
	case c.Kind == 3 && d.Root && c.Target == 0:
		a.At, a.Code = untold, p.ClearRoot(d.Index)
	case c.Kind == 3 && d.Root:
		a.At, a.Code = untold, p.SetRoot(d.Index, c.Target)
	case c.Kind == 3:
		a.At, a.Code = untold, p.StorePtr(d.Object, d.Index, c.Target)
	case c.Kind == 5:
		a.Code = p.WriteData(d.Object, d.Index, c.X)
	case c.Kind == 6:
		a.X, a.Code = p.ReadData(d.Object, d.Index)
	case c.Kind == 7:
		a.Code = p.Persist(d.Object, d.Index, c.Many)
	case c.Kind == 8:
		a.Code = p.Tx(c.Edits...)
	default:
		return p.Do(c)
	}
	return a
}

// untold is the address that a name doesn't tell.
const untold = -7

// agrees tells whether an answer is the one that it should be, but for an address that isn't told.
func agrees(got, want api.Answer) bool {
	if got.At == untold {
		got.At = want.At
	}
	return got == want
}
