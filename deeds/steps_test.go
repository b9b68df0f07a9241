package deeds_test

import (
	"math"
	"slices"
	"testing"

	"trencher/api"
	"trencher/deeds"
	"trencher/env"
	"trencher/heap"
	"trencher/locks"
	"trencher/pmem"
)

// each has a call of each kind, which would do something, on a world with two objects in the roots 0 and 1.
func each(a, b int) []api.Call {
	return []api.Call{
		malloc(root(2), 3, 1), malloc(root(2), 100, 1), free(root(1)), set(slot(a, 0), b), set(root(0), 0), get(root(0)), get(slot(a, 0)), write(a, 0, 7), read(a, 0), persist(a, 0, 1), tx(writes(a, 0, 7)), tx(points(root(2), a)),
	}
}

// two is a world with two objects in the roots 0 and 1, the second one small.
func two(t *testing.T, g api.Geometry) (w *world, a, b int) {
	w = fresh(t, g)
	a = w.do(malloc(root(0), 7, 2)).At
	b = w.do(malloc(root(1), 3, 1)).At
	return
}

// A kind that there isn't is ErrArg, whatever else is wrong, without a step.
func TestP19_1Kinds(t *testing.T) {
	w, a, b := two(t, middle)
	for _, kind := range append(wrongs(9), 0, 10, 100) {
		for _, c := range each(a, b) {
			for _, who := range []int{0, 2, 3, -1} {
				c.Kind, c.Who = kind, who
				w.gives(c, wrong(1))
				w.stepless(c)
			}
		}
		w.gives(api.Call{Kind: kind, Words: -1, Slots: 300, Dest: root(9), Edits: make([]api.Edit, 20)}, wrong(1))
	}
}

// A who that is no lane is ErrArg, whatever else is wrong, without a step: of each geometry's lanes.
func TestP19_1Whos(t *testing.T) {
	for lanes := 1; lanes <= 4; lanes++ {
		w, a, b := two(t, api.Geometry{Spans: 4, Lanes: lanes, Roots: 3})
		for _, who := range append(wrongs(lanes), 4, 5) {
			for _, c := range each(a, b) {
				w.gives(by(who, c), wrong(1))
				w.stepless(by(who, c))
			}
			// Each of these would be another error by a who that is a lane.
			for _, c := range []api.Call{malloc(root(0), 0, 0), malloc(root(9), 3, 0), free(root(9)), free(root(2)), set(root(0), 1), get(root(9)), write(1, 0, 0), read(a, 90), persist(a, 0, 0), tx(points(root(9), 0))} {
				w.gives(by(who, c), wrong(1))
				w.stepless(by(who, c))
			}
		}
		for who := range lanes {
			for _, c := range each(a, b)[5:] {
				w.do(by(who, c))
			}
		}
	}
}

// Of a geometry that may not be no who is a lane.
func TestP19_1NoGeometry(t *testing.T) {
	for _, g := range []api.Geometry{{}, {Spans: 1, Lanes: 1}, {Spans: 1, Roots: 1}, {Lanes: 1, Roots: 1}, {Spans: 17, Lanes: 4, Roots: 8}, {Spans: 16, Lanes: 5, Roots: 8}, {Spans: 16, Lanes: 4, Roots: 9}, {Spans: -1, Lanes: -1, Roots: -1}, {Spans: math.MaxInt, Lanes: math.MaxInt, Roots: math.MaxInt}} {
		w, a, b := two(t, middle)
		w.g = g
		for _, c := range each(a, b) {
			x := w.run(c)
			if x.Step() != env.Over || deeds.Answer(x.Answer()) != wrong(1) {
				t.Fatal(g, c, x.Answer())
			}
		}
	}
}

// The steps of a call that nothing hangs on beside its root.
func TestP19_1GetSteps(t *testing.T) {
	w, a, _ := two(t, middle)
	x := w.run(get(root(0)))
	for i, had := range [][]int{{1}, {1}, nil} {
		loads := w.region.Steps()
		if s := x.Step(); s != env.Stepped || !slices.Equal(w.locks.Of(0), had) || x.Over() != (i == 2) || w.region.Steps()-loads != []int64{0, 1, 0}[i] {
			t.Fatal(i, s, w.locks.Of(0), x.Over())
		}
	}
	if s := x.Step(); s != env.Over || !slices.Equal(x.Answer(), []uint64{0, uint64(a), 0}) {
		t.Fatal(s, x.Answer())
	}
}

// A deed answers three numbers: with an error the others are 0.
func TestP19_1Numbers(t *testing.T) {
	w, a, b := two(t, middle)
	for _, c := range []struct {
		call api.Call
		want []uint64
	}{
		{get(root(1)), []uint64{0, uint64(b), 0}},
		{get(root(9)), []uint64{3, 0, 0}},
		{get(root(2)), []uint64{0, 0, 0}},
		{write(a, 0, math.MaxUint64), []uint64{0, 0, 0}},
		{read(a, 0), []uint64{0, 0, math.MaxUint64}},
		{read(a, 5), []uint64{13, 0, 0}},
		{read(b, 9), []uint64{13, 0, 0}},
		{set(root(2), a), []uint64{0, 0, 0}},
		{set(root(2), b), []uint64{0, uint64(a), 0}},
		{set(root(2), b), []uint64{0, uint64(b), 0}},
		{set(root(2), b+1), []uint64{4, 0, 0}},
		{free(root(2)), []uint64{7, 0, 0}},
		{set(root(2), 0), []uint64{0, uint64(b), 0}},
		{free(root(1)), []uint64{0, uint64(b), 0}},
		{persist(a, 0, 1), []uint64{0, 0, 0}},
		{tx(writes(a, 0, 3)), []uint64{0, 0, 0}},
		{tx(), []uint64{1, 0, 0}},
		{malloc(root(0), 3, 0), []uint64{5, 0, 0}},
		{malloc(root(1), 3, 0), []uint64{0, uint64(b), 0}},
		{api.Call{}, []uint64{1, 0, 0}},
	} {
		x := w.run(c.call)
		x.All(-1)
		if got := x.Answer(); !slices.Equal(got, c.want) {
			t.Fatalf("%+v: %v, not %v", c.call, got, c.want)
		}
	}
}

func TestP19_1Answer(t *testing.T) {
	for _, l := range [][]uint64{nil, {}, {1}, {0}, {1, 2}, {0, 76}, {1, 2, 3, 4}, {0, 0, 0, 0}, {5, 6, 7, 8, 9}, make([]uint64, 100)} {
		if got := deeds.Answer(l); got != (api.Answer{}) {
			t.Error(l, got)
		}
	}
	for _, c := range []struct {
		l    []uint64
		want api.Answer
	}{
		{[]uint64{0, 0, 0}, api.Answer{}},
		{[]uint64{0, 76, 0}, api.Answer{At: 76}},
		{[]uint64{0, 0, 9}, api.Answer{X: 9}},
		{[]uint64{13, 0, 0}, api.Answer{Code: api.ErrRange}},
		{[]uint64{3, 4, 5}, api.Answer{Code: 3, At: 4, X: 5}},
		{[]uint64{0, math.MaxInt, math.MaxUint64}, api.Answer{At: math.MaxInt, X: math.MaxUint64}},
		{[]uint64{0, 16383, 1 << 63}, api.Answer{At: 16383, X: 1 << 63}},
	} {
		was := slices.Clone(c.l)
		if got := deeds.Answer(c.l); got != c.want || !slices.Equal(c.l, was) {
			t.Error(c.l, got)
		}
	}
}

// However often a deed is let go from its beginning, no step is done once more: at once it does the same steps as one by one.
func TestP19_1Again(t *testing.T) {
	for seed, g := range []api.Geometry{least, middle} {
		at, by := fresh(t, g), fresh(t, g)
		m := &maker{at, chance(seed + 900)}
		for range 600 {
			c := m.call(m.next(g.Lanes))
			at.do(c)
			by.plain.do(c, api.Answer{})
			by.wiped()
			x := by.run(c)
			for !x.Over() {
				x.Step()
			}
			by.holds(c)
			if at.locks.Taken() != by.locks.Taken() || at.region.Steps() != by.region.Steps() {
				t.Fatalf("%+v: %d locks, %d steps; %d, %d", c, at.locks.Taken(), at.region.Steps(), by.locks.Taken(), by.region.Steps())
			}
		}
	}
}

// A deed is no call: it does one each time that a run of it goes.
func TestP19_1DeedTwice(t *testing.T) {
	w, _, _ := two(t, middle)
	c := malloc(root(2), 3, 0)
	deed := deeds.Deed(w.g, w.heap, c)
	for _, want := range []api.Answer{w.plain.do(c, api.Answer{}), w.plain.do(c, api.Answer{})} {
		x := env.New(w.region, w.locks, 0, deed)
		if code := x.All(-1); code != api.OK || deeds.Answer(x.Answer()) != want {
			t.Fatal(code, x.Answer(), want)
		}
	}
	w.wiped()
	w.plain.log = nil
	w.holds(c)
}

// A deed that isn't let go does nothing.
func TestP19_1DeedAlone(t *testing.T) {
	w, a, b := two(t, middle)
	was := w.now()
	for _, c := range each(a, b) {
		deeds.Deed(w.g, w.heap, c)
		w.run(c)
	}
	if is := w.now(); !slices.Equal(is.words, was.words) || !same(is.shelves, was.shelves) {
		t.Error("a deed did something")
	}
}

// What is handed in may turn behind the call, and isn't turned by it, its spare room neither.
func TestP19_1Edits(t *testing.T) {
	w, a, b := two(t, middle)
	room := []api.Edit{writes(a, 0, 5), points(slot(a, 1), b), writes(b, 0, 6), writes(a, 1, 99), writes(a, 2, 99)}
	was := slices.Clone(room)
	c := tx(room[:3]...)
	x := w.run(c)
	w.plain.do(c, api.Answer{})
	for range 9 {
		x.Step()
	}
	if !slices.Equal(room, was) {
		t.Fatal(room)
	}
	for i := range room {
		room[i] = writes(1, 1, 1)
	}
	w.wiped() // no log was begun yet, so that nothing of it is lost
	x.All(-1)
	if deeds.Answer(x.Answer()) != ok {
		t.Fatal(x.Answer())
	}
	w.holds(c)
}

// Nothing hangs on what was done elsewhere.
func TestP19_1Apart(t *testing.T) {
	one, other := fresh(t, middle), fresh(t, middle)
	m := &maker{one, chance(31)}
	n := &maker{other, chance(31)}
	third := &maker{fresh(t, middle), chance(32)}
	for range 300 {
		c, d := m.call(1), n.call(1)
		third.w.do(third.call(0))
		if one.do(c) != other.do(d) || !slices.Equal(one.region.Seen(), other.region.Seen()) {
			t.Fatalf("%+v, %+v", c, d)
		}
	}
}

// Without a heap, a region, a table, or an Env, calls end all the same.
func TestP19_1Without(t *testing.T) {
	w, a, b := two(t, middle)
	g := middle
	other := heap.New(least, make([]api.Head, 1), make([]uint64, 1))
	for _, c := range append(each(a, b), api.Call{}, tx(), malloc(slot(a, 0), 3, 0), free(slot(a, 0)), malloc(root(3), 255, 0)) {
		for _, h := range []*heap.Heap{nil, new(heap.Heap), other, w.heap} {
			for _, r := range []*pmem.Region{nil, pmem.New(8), pmem.New(total(least)), pmem.New(total(most))} {
				l := locks.New(api.Locks)
				x := env.New(r, l, 0, deeds.Deed(g, h, c))
				if code := x.All(deeds.Bound(g)); code != api.OK || len(l.Of(0)) != 0 || len(x.Answer()) != 3 {
					t.Fatal(c, code, l.Of(0), x.Answer())
				}
			}
			env.New(w.region, nil, 0, deeds.Deed(g, h, c)).All(-1)
			env.New(w.region, locks.New(1), 0, deeds.Deed(g, h, c)).All(-1)
			deeds.Deed(g, h, c)(nil)
			deeds.Deed(g, h, c)(new(env.Env))
		}
	}
}

// However many steps the fuse lets go, the rest is done by what follows.
func TestP19_1Fuses(t *testing.T) {
	for fuse := 1; fuse < 30; fuse++ {
		w, a, b := two(t, middle)
		for _, c := range each(a, b) {
			w.wiped()
			want := w.plain.do(c, api.Answer{})
			x := w.run(c)
			for x.All(fuse) == api.ErrPower {
			}
			if got := deeds.Answer(x.Answer()); got != want {
				t.Fatal(fuse, c, got)
			}
			w.holds(c)
		}
	}
}

// Of each geometry, also of one that may not be.
func TestP19_2Bound(t *testing.T) {
	for spans := -1; spans <= 18; spans++ {
		for lanes := -1; lanes <= 6; lanes++ {
			for roots := -1; roots <= 10; roots++ {
				if n := deeds.Bound(api.Geometry{Spans: spans, Lanes: lanes, Roots: roots}); n != 2000 {
					t.Fatal(spans, lanes, roots, n)
				}
			}
		}
	}
	for _, n := range wrongs(4) {
		if got := deeds.Bound(api.Geometry{Spans: n, Lanes: n, Roots: n}); got != 2000 {
			t.Fatal(n, got)
		}
	}
}

// The dearest calls of each kind take no more steps than that, wherever they are.
func TestP19_2Dearest(t *testing.T) {
	for _, g := range []api.Geometry{most, {Spans: 16, Lanes: 1, Roots: 8}} {
		w := fresh(t, g)
		who := g.Lanes - 1
		a := w.do(malloc(root(0), 255, 255)).At
		b := w.do(malloc(root(1), 255, 255)).At
		c := w.do(malloc(slot(a, 254), 255, 0)).At
		for i := range 255 {
			w.do(write(c, i, uint64(i)+1))
		}
		w.do(by(who, persist(c, 0, 255)))
		var l []api.Edit
		for i := range 16 {
			l = append(l, writes(c, i*16, 5))
		}
		w.gives(by(who, tx(l...)), ok)
		for i := range 16 {
			l[i] = points(slot(a, i), c)
		}
		w.gives(by(who, tx(l[:15]...)), ok)
		for i := range 16 {
			l[i] = points(slot(a, i), b)
		}
		w.gives(by(who, tx(l...)), wrong(10))
		w.gives(by(who, tx(l[:14]...)), ok)
		for i := range 15 {
			w.gives(set(slot(a, i), 0), told(w.plain.things[a].slots[i]))
		}
		w.gives(by(who, free(slot(a, 254))), told(c))
		w.gives(by(who, free(root(0))), told(a))
		w.gives(by(who, free(root(1))), told(b))
	}
}
