package graph_test

import (
	"maps"
	"math"
	"slices"
	"testing"

	"trencher/api"
	"trencher/graph"
	"trencher/pool"
)

// The geometries that most is tried in: those at the edges, and some between.
var (
	least  = api.Geometry{Spans: 1, Lanes: 1, Roots: 1}
	middle = api.Geometry{Spans: 6, Lanes: 3, Roots: 4}
	most   = api.Geometry{Spans: 16, Lanes: 4, Roots: 8}
)

// few are some of them.
func few() []api.Geometry {
	return []api.Geometry{least, middle, most, {Spans: 2, Lanes: 1, Roots: 8}, {Spans: 3, Lanes: 4, Roots: 2}, {Spans: 9, Lanes: 2, Roots: 3}}
}

// everyGeometry are all that may be.
func everyGeometry() []api.Geometry {
	var l []api.Geometry
	for i := range 16 * 4 * 8 {
		l = append(l, api.Geometry{Spans: i/32 + 1, Lanes: i/8%4 + 1, Roots: i%8 + 1})
	}
	return l
}

// Where the parts of a region begin, and how many words it has.
func rootAt(i int) int                    { return 8 + i }
func laneAt(n int) int                    { return 16 + 40*n }
func headAt(g api.Geometry, span int) int { return 16 + 40*g.Lanes + 8*span }
func spanAt(g api.Geometry, span int) int { return 16 + 40*g.Lanes + 8*g.Spans + 64*span }
func total(g api.Geometry) int            { return 16 + 40*g.Lanes + 72*g.Spans }

// root is the destination of a root, slot that of a slot.
func root(i int) api.Dest     { return api.Dest{Root: true, Index: i} }
func slot(at, i int) api.Dest { return api.Dest{Object: at, Index: i} }

// A trial is a pool, beside a plain model in which the same calls are done.
type trial struct {
	t     *testing.T
	pool  *pool.Pool
	plain *plain
}

// formatted is a trial of a pool that was formatted just now.
func formatted(t *testing.T, g api.Geometry) *trial {
	t.Helper()
	p := pool.Format(g)
	if p == nil {
		t.Fatalf("%v: none", g)
	}
	return &trial{t, p, blank(g)}
}

// words are what programs see.
func (tr *trial) words() []uint64 { return tr.pool.Region().Seen() }

// right checks that the pool's graph is the plain model's: the same.
func (tr *trial) right(what any) api.Graph {
	tr.t.Helper()
	words := tr.words()
	was := slices.Clone(words)
	got, code := graph.Of(words)
	if want := tr.plain.graph(); code != api.OK || !same(got, want) {
		tr.t.Fatalf("%v: %+v, %d, not %+v", what, got, code, want)
	}
	if !slices.Equal(words, was) {
		tr.t.Fatalf("%v: words turned", what)
	}
	return got
}

// fine checks that there is no error.
func (tr *trial) fine(code api.Errno) {
	tr.t.Helper()
	if code != api.OK {
		tr.t.Fatalf("%d", code)
	}
}

// tried lets a new object begin, if there is room: its address, 0 without.
func (tr *trial) tried(d api.Dest, words, slots int) int {
	at, code := tr.pool.MallocTo(d, words, slots)
	if code != api.OK {
		return 0
	}
	tr.plain.pointers(d)[d.Index] = at
	tr.plain.things[at] = &thing{make([]int, slots), make([]uint64, words-slots)}
	return at
}

// makes lets a new object begin: its address.
func (tr *trial) makes(d api.Dest, words, slots int) int {
	tr.t.Helper()
	at := tr.tried(d, words, slots)
	if at == 0 {
		tr.t.Fatalf("%v, %d words: none", d, words)
	}
	return at
}

// point lets a root, or a slot, point to an object, or to nothing.
func (tr *trial) point(d api.Dest, target int) {
	tr.t.Helper()
	if d.Root {
		tr.fine(tr.pool.SetRoot(d.Index, target))
	} else {
		tr.fine(tr.pool.StorePtr(d.Object, d.Index, target))
	}
	tr.plain.pointers(d)[d.Index] = target
}

// write writes a datum.
func (tr *trial) write(at, i int, x uint64) {
	tr.t.Helper()
	tr.fine(tr.pool.WriteData(at, i, x))
	tr.plain.things[at].data[i] = x
}

// free ends an object, if that may be.
func (tr *trial) free(d api.Dest) {
	if at, code := tr.pool.FreeFrom(d); code == api.OK {
		tr.plain.pointers(d)[d.Index] = 0
		delete(tr.plain.things, at)
	}
}

// batch lets a pointer be set and a datum be written, both at once.
func (tr *trial) batch(d api.Dest, target, at, i int, x uint64) {
	tr.t.Helper()
	tr.fine(tr.pool.Tx(api.Edit{Dest: d, Target: target}, api.Edit{Data: true, Dest: slot(at, i), X: x}))
	tr.plain.pointers(d)[d.Index] = target
	tr.plain.things[at].data[i] = x
}

// fails lets power fail, with all that was written kept.
func (tr *trial) fails() {
	tr.t.Helper()
	tr.fine(tr.pool.Fail(func(many int) int { return many - 1 }))
	tr.plain.opened()
}

// A maker does calls that look as if they were by chance.
type maker struct {
	tr   *trial
	next func(below int) int
}

// objects are the addresses of all objects, also of garbage, rising.
func (m *maker) objects() []int {
	return slices.Sorted(maps.Keys(m.tr.plain.things))
}

// dest is some root, or some slot of an object.
func (m *maker) dest() api.Dest {
	var l []api.Dest
	for i := range m.tr.plain.roots {
		l = append(l, root(i))
	}
	for _, at := range m.objects() {
		for i := range m.tr.plain.things[at].slots {
			l = append(l, slot(at, i))
		}
	}
	return l[m.next(len(l))]
}

// target is an object, or nothing.
func (m *maker) target() int {
	l := append(m.objects(), 0)
	return l[m.next(len(l))]
}

// datum is an object, and which of its data; 0, if none is picked.
func (m *maker) datum() (at, i int) {
	for _, at := range m.objects() {
		if n := len(m.tr.plain.things[at].data); n > 0 && m.next(3) == 0 {
			return at, m.next(n)
		}
	}
	return 0, 0
}

// number is a datum, also such as look like addresses, or like first words.
func (m *maker) number() uint64 {
	return []uint64{0, 1, uint64(m.target()), 1 << 24, 1<<63 + 5, math.MaxUint64, uint64(m.next(1 << 40))}[m.next(7)]
}

// call does some call.
func (m *maker) call() {
	m.tr.t.Helper()
	switch m.next(9) {
	case 0, 1, 2:
		words := []int{1, 2, 3, 4, 7, 8, 15, 16, 63, 64, 130, 255}[min(m.next(12), m.next(12), m.next(12))]
		m.tr.tried(m.dest(), words, min(words, m.next(5)))
	case 3, 4, 5:
		m.tr.point(m.dest(), m.target())
	case 6:
		m.tr.free(m.dest())
	case 7:
		if at, i := m.datum(); at != 0 {
			m.tr.write(at, i, m.number())
		}
	case 8:
		if at, i := m.datum(); at != 0 {
			m.tr.batch(m.dest(), m.target(), at, i, m.number())
		}
	}
}
