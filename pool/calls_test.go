package pool_test

import (
	"math"
	"slices"
	"testing"

	"trencher/api"
	"trencher/env"
)

// The scene that most calls are tried on, and where its objects are: a, of 7 words, 3 of them slots, at the root 0; b, of 5, in a's slot 0; a large one, of 70, in a's slot 2; garbage.
var middling = api.Geometry{Spans: 6, Lanes: 2, Roots: 4}

// where are the addresses of the scene's objects.
func (tr *trial) where() (a, b, c int) {
	a = tr.plain.roots[0]
	return a, tr.plain.things[a].slots[0], tr.plain.things[a].slots[2]
}

// calls are some of each kind, right and wrong, for the scene.
func (tr *trial) calls() []api.Call {
	a, b, c := tr.where()
	g := tr.plain.g
	return []api.Call{
		malloc(root(1), 3, 1), malloc(root(2), 1, 0), malloc(root(1), 15, 15), malloc(root(1), 16, 0), malloc(root(3), 100, 1), malloc(slot(b, 0), 3, 0), malloc(slot(c, 0), 7, 7), malloc(root(0), 3, 0), malloc(root(4), 3, 0), malloc(slot(a, 3), 3, 0), malloc(slot(b+1, 0), 3, 0), malloc(root(1), 255, 0), malloc(root(1), 3, 4), malloc(root(1), 0, 0), malloc(root(1), 256, 0),
		free(slot(a, 2)), free(root(0)), free(root(1)), free(slot(a, 1)), free(root(-1)), free(slot(a, 0)),
		set(root(1), a), set(root(0), 0), set(root(0), b), set(slot(b, 0), c), set(slot(a, 2), 0), set(slot(c, 0), c), set(root(0), a), set(root(1), a+1), set(slot(a, 9), b), set(root(4), b),
		get(root(0)), get(root(1)), get(slot(a, 2)), get(slot(a, 3)), get(root(4)),
		write(a, 0, 9), write(a, 3, math.MaxUint64), write(c, 67, 1), write(b, 4, 1), write(b, -1, 1), write(0, 0, 1),
		read(a, 0), read(a, 3), read(c, 67), read(c, 68), read(-1, 0),
		persist(a, 0, 4), persist(c, 0, 68), persist(c, 60, 8), persist(a, 1, 4), persist(a, 0, 0), persist(8, 0, 1),
		tx(writes(a, 0, 1), writes(c, 5, 2)), tx(points(root(1), b), points(root(0), 0)), tx(points(slot(a, 0), c), writes(a, 0, 3), points(root(3), a)), tx(points(root(1), a), points(root(1), 0)), tx(), tx(slices.Repeat([]api.Edit{writes(a, 0, 1)}, 16)...), tx(slices.Repeat([]api.Edit{writes(a, 0, 1)}, 17)...), tx(writes(a, 0, 1), writes(a, 9, 1)), tx(points(root(1), 3)),
		{}, {Kind: 9, Dest: root(0)}, {Kind: -1}, by(g.Lanes, get(root(0))), by(-1, get(root(0))), by(1, malloc(root(1), 3, 1)), by(1, free(slot(a, 2))), by(1, set(root(1), a)), by(1, tx(writes(a, 0, 1), points(root(1), b))),
	}
}

// A call does the same in each way: at once, as a run's steps, by its name.
func TestP21_2Calls(t *testing.T) {
	for i, c := range scene(t, middling).calls() {
		for way := range ways {
			tr := scene(t, middling)
			tr.do(way, c)
			tr.do(way, c) // again, on what the first one left
			tr.fails(pickers()[i%len(pickers())])
			tr.do(way, c)
		}
	}
}

// Wrong numbers, of each argument of each call, change nothing.
func TestP21_2Wrong(t *testing.T) {
	tr := scene(t, middling)
	a, b, _ := tr.where()
	g := tr.plain.g
	for way := range ways {
		for _, n := range wrongs(g.Roots) {
			for _, c := range []api.Call{malloc(root(n), 3, 1), free(root(n)), set(root(n), a), set(root(n), 0), get(root(n)), tx(points(root(n), a))} {
				tr.refuses(way, c, 3)
			}
		}
		for _, n := range wrongs(3) {
			for _, c := range []api.Call{malloc(slot(a, n), 3, 1), free(slot(a, n)), set(slot(a, n), b), get(slot(a, n)), tx(points(slot(a, n), b))} {
				tr.refuses(way, c, 3)
			}
		}
		for _, n := range wrongs(4) {
			for _, c := range []api.Call{write(a, n, 1), read(a, n), persist(a, n, 1), tx(writes(a, n, 1))} {
				tr.refuses(way, c, 13)
			}
		}
		for _, at := range append(wrongs(total(g)), a+1, b-1, 0, 8, 16, headAt(g, 0), total(g)-1) {
			for _, c := range []api.Call{write(at, 0, 1), read(at, 0), persist(at, 0, 1), tx(writes(at, 0, 1))} {
				tr.refuses(way, c, 4)
			}
			if at != 0 {
				tr.refuses(way, set(root(1), at), 4)
				tr.refuses(way, tx(points(root(1), at)), 4)
			}
			for _, c := range []api.Call{malloc(slot(at, 0), 3, 1), free(slot(at, 0)), set(slot(at, 0), a), get(slot(at, 0))} {
				tr.refuses(way, c, 3)
			}
		}
		for _, n := range wrongs(256) {
			if n >= 0 && n < 256 {
				continue
			}
			size := api.ErrSize
			if n < 0 {
				size = api.ErrArg // as no slots are more than the words
			}
			tr.refuses(way, malloc(root(1), n, 0), size)
			tr.refuses(way, malloc(root(1), 3, n), 1)
			tr.refuses(way, persist(a, 0, n), 13)
		}
		for _, n := range wrongs(g.Lanes) {
			for kind := range 10 {
				tr.refuses(way, api.Call{Kind: kind, Who: n, Dest: root(1), Words: 3, Many: 1}, 1)
			}
		}
		for _, n := range append(wrongs(9), 0) {
			tr.refuses(way, api.Call{Kind: n, Dest: root(1), Words: 3, Target: a, Edits: []api.Edit{writes(a, 0, 1)}}, 1)
		}
	}
}

// refuses does a call that should tell an error, and turn nothing.
func (tr *trial) refuses(way int, c api.Call, code api.Errno) {
	tr.t.Helper()
	seen, kept := tr.pool.Region().Seen(), tr.pool.Region().Kept()
	if a := tr.do(way, c); a != wrong(code) {
		tr.t.Fatalf("%+v: %v, not %d", c, a, code)
	}
	// A Malloc that comes to its destination may have carved a span, and had a block, by then.
	if c.Kind != api.CallMalloc && (differ(tr.pool.Region().Seen(), seen) >= 0 || differ(tr.pool.Region().Kept(), kept) >= 0) {
		tr.t.Fatalf("%+v: words turned", c)
	}
	census(tr.t, c, tr.pool, true)
}

// What was begun has done no step, also of what is wrong, and does none till it is stepped; what it goes by is the call as it was then.
func TestP21_2Begin(t *testing.T) {
	for _, c := range scene(t, middling).calls() {
		tr := scene(t, middling)
		x := tr.pool.Begin(c)
		if x.Over() || x.Steps() != 0 || len(x.Answer()) > 0 {
			t.Fatalf("%+v: %v, %d steps, %v", c, x.Over(), x.Steps(), x.Answer())
		}
		like(t, c, tr.pool, tr.hand)
		h := tr.hand.run(c)
		edits := slices.Clone(c.Edits)
		for i := range c.Edits {
			c.Edits[i] = api.Edit{Data: true, X: 5, Dest: root(77)}
		}
		for !h.Over() {
			if got, want := x.Step(), h.Step(); got != want {
				t.Fatalf("%+v: step %d: %d, not %d", c, h.Steps(), got, want)
			}
			like(t, c, tr.pool, tr.hand)
		}
		if !x.Over() || x.Steps() != h.Steps() || !slices.Equal(x.Answer(), h.Answer()) || x.Step() != env.Over {
			t.Fatalf("%+v: over %v, %d steps, %v", c, x.Over(), x.Steps(), x.Answer())
		}
		copy(c.Edits, edits)
	}
}

// The edits that are handed in stay as they are, their spare room too, and aren't kept.
func TestP21_3TxMemory(t *testing.T) {
	tr := scene(t, middling)
	a, b, _ := tr.where()
	room := []api.Edit{writes(a, 0, 41), points(root(1), b), writes(a, 1, 42), {X: 1}, {X: 2}}
	was := slices.Clone(room)
	c := tx(room[:3]...)
	if code := tr.pool.Tx(room[:3]...); code != 0 || !slices.Equal(room, was) {
		t.Fatalf("%d, %v", code, room)
	}
	tr.plain.do(c, false, 0)
	tr.hand.do(c)
	clear(room)
	like(t, "edits", tr.pool, tr.hand)
	tr.do(atOnce, read(a, 0))
	tr.do(atOnce, read(a, 1))
}

// Runs by several whos go in turn, under the pool's locks: one that can't take a lock is blocked, and turns nothing.
func TestP21_2Turns(t *testing.T) {
	tr := scene(t, middling)
	a, b, _ := tr.where()
	x, y := tr.pool.Begin(set(root(1), a)), tr.pool.Begin(by(1, set(root(2), b)))
	if x.Step() != env.Stepped || owners(tr.pool.Locks()) != [2]int{-1, 0} {
		t.Fatal("it hasn't the lock")
	}
	steps := tr.pool.Region().Steps()
	for range 3 {
		if y.Step() != env.Blocked || y.Steps() != 0 || tr.pool.Region().Steps() != steps {
			t.Fatal("it isn't blocked")
		}
	}
	if x.All(-1) != 0 || y.Step() != env.Stepped || owners(tr.pool.Locks()) != [2]int{-1, 1} || y.All(-1) != 0 {
		t.Fatal("it is still blocked")
	}
	if l := tr.pool.Locks(); l.Taken() != 2+tr.hand.locks.Taken() || owners(l) != [2]int{-1, -1} {
		t.Errorf("%d taken, %v", l.Taken(), owners(l))
	}
	tr.plain.do(set(root(1), a), false, 0)
	tr.plain.do(set(root(2), b), false, 0)
	if !tr.plain.isImage(tr.pool.Region().Seen()) {
		t.Error("not both were done")
	}
}

// A call that is done is one that nobody stands in the way of: it is over, whoever has a lock; the locks that somebody has stay with them.
func TestP21_2DoBesideRuns(t *testing.T) {
	for _, c := range scene(t, middling).calls() {
		tr := scene(t, middling)
		a, _, _ := tr.where()
		reads := tr.pool.Begin(by(1, read(a, 1)))
		if reads.Step() != env.Stepped || owners(tr.pool.Locks()) != [2]int{-1, 1} {
			t.Fatal("it hasn't the lock")
		}
		tr.pool.Locks().Take(api.LockHeap, 7)
		taken := tr.pool.Locks().Taken()
		full := tr.full(c)
		got := tr.pool.Do(c)
		if want := tr.plain.do(c, full, got.At); got != want || tr.hand.do(c) != want {
			t.Fatalf("%+v: %v, not %v", c, got, want)
		}
		if l := tr.pool.Locks(); owners(l) != [2]int{7, 1} || l.Taken() != taken {
			t.Fatalf("%+v: %v have locks", c, owners(l))
		}
		if differ(tr.pool.Region().Seen(), tr.hand.region.Seen()) >= 0 || tr.pool.Region().Steps() != tr.hand.region.Steps() {
			t.Fatalf("%+v: it was done otherwise", c)
		}
		hasHeap(t, c, tr.pool, tr.hand.heap)
		if reads.All(-1) != 0 || owners(tr.pool.Locks()) != [2]int{7, -1} {
			t.Fatalf("%+v: it isn't over", c)
		}
	}
}

// Behind its end a call has left the locks that it took in the pool's table.
func TestP21_2DoLocks(t *testing.T) {
	tr := formatted(t, least)
	l := tr.pool.Locks()
	if l.Len() != 2 || l.Taken() != 0 {
		t.Fatal(l.Len(), l.Taken())
	}
	at := tr.makes(root(0), 3, 0)
	if l.Taken() != 2 || owners(l) != [2]int{-1, -1} {
		t.Error(l.Taken(), owners(l))
	}
	tr.does(read(at, 0))
	if l.Taken() != 3 || tr.pool.Locks() != l {
		t.Error(l.Taken())
	}
}

// What names tell beside an error is zero; each does the call of its kind, by the who 0.
func TestP21_3Names(t *testing.T) {
	tr := formatted(t, middle)
	p := tr.pool
	a, code := p.MallocTo(root(1), 5, 2)
	if code != 0 || p.Do(get(root(1))) != told(a) || len(p.Heap().Cache(0, 2)) != 3 {
		t.Fatal(a, code)
	}
	b, code := p.MallocTo(slot(a, 1), 20, 1)
	if code != 0 || p.Do(get(slot(a, 1))) != told(b) || p.Do(get(slot(a, 0))) != told(0) {
		t.Fatal(b, code)
	}
	for i := range 3 {
		if code := p.WriteData(a, i, uint64(60+i)); code != 0 {
			t.Fatal(code)
		}
		if x, code := p.ReadData(a, i); x != uint64(60+i) || code != 0 {
			t.Fatal(x, code)
		}
	}
	if code := p.Persist(a, 1, 2); code != 0 {
		t.Fatal(code)
	}
	if x, _ := p.ReadData(b, 3); x != 0 || p.StorePtr(b, 0, a) != 0 || p.Do(get(slot(b, 0))) != told(a) {
		t.Fatal(x)
	}
	if p.SetRoot(3, b) != 0 || p.Do(get(root(3))) != told(b) || p.ClearRoot(3) != 0 || p.Do(get(root(3))) != told(0) || p.ClearRoot(3) != 0 {
		t.Fatal("a root")
	}
	if _, code := p.FreeFrom(slot(a, 1)); code != api.ErrHeld {
		t.Fatal(code)
	}
	if p.StorePtr(b, 0, 0) != 0 || p.Tx(writes(a, 0, 1), writes(a, 2, 3), points(root(0), b)) != 0 {
		t.Fatal("a slot, a batch")
	}
	if at, code := p.FreeFrom(slot(a, 1)); at != 0 || code != api.ErrShared {
		t.Fatal(at, code)
	}
	if p.ClearRoot(0) != 0 {
		t.Fatal("a root")
	}
	if at, code := p.FreeFrom(slot(a, 1)); at != b || code != 0 {
		t.Fatal(at, code)
	}
	if x, code := p.ReadData(a, 2); x != 3 || code != 0 {
		t.Fatal(x, code)
	}
}

// refused checks that a call's name tells that error, and zero beside it.
func refused[T int | uint64](t *testing.T, what string, code api.Errno) func(T, api.Errno) {
	return func(x T, got api.Errno) {
		t.Helper()
		if x != 0 || got != code {
			t.Errorf("%s: %v, %d, not %d", what, x, got, code)
		}
	}
}

// The errors that names tell.
func TestP21_3NamesWrong(t *testing.T) {
	tr := scene(t, middling)
	p := tr.pool
	a, b, c := tr.where()
	refused[int](t, "malloc: slots", 1)(p.MallocTo(root(1), 3, 4))
	refused[int](t, "malloc: words", 2)(p.MallocTo(root(1), 256, 0))
	refused[int](t, "malloc: root", 3)(p.MallocTo(root(4), 3, 0))
	refused[int](t, "malloc: slot", 3)(p.MallocTo(slot(a, 3), 3, 0))
	refused[int](t, "malloc: set", 5)(p.MallocTo(root(0), 3, 0))
	refused[int](t, "malloc: memory", 9)(p.MallocTo(root(1), 255, 0))
	refused[int](t, "free: root", 3)(p.FreeFrom(root(-1)))
	refused[int](t, "free: none", 6)(p.FreeFrom(root(1)))
	refused[int](t, "free: shared", 7)(p.FreeFrom(slot(a, 1)))
	refused[int](t, "free: held", 8)(p.FreeFrom(slot(a, 2)))
	refused[uint64](t, "read: stale", 4)(p.ReadData(a+1, 0))
	refused[uint64](t, "read: range", 13)(p.ReadData(a, 4))
	for what, l := range map[string][2]api.Errno{
		"root: dest": {p.SetRoot(4, a), 3}, "root: stale": {p.SetRoot(0, b+1), 4}, "clear: dest": {p.ClearRoot(-1), 3},
		"slot: dest": {p.StorePtr(a, 3, b), 3}, "slot: stale": {p.StorePtr(a, 0, c+1), 4}, "slot: no object": {p.StorePtr(0, 0, b), 3},
		"write: stale": {p.WriteData(8, 0, 1), 4}, "write: range": {p.WriteData(b, 4, 1), 13},
		"persist: stale": {p.Persist(0, 0, 1), 4}, "persist: none": {p.Persist(a, 0, 0), 13}, "persist: many": {p.Persist(a, 1, 4), 13}, "persist: range": {p.Persist(a, -1, 1), 13},
		"tx: none": {p.Tx(), 1}, "tx: 17": {p.Tx(make([]api.Edit, 17)...), 1}, "tx: range": {p.Tx(writes(a, 0, 1), writes(a, 4, 1)), 13}, "tx: dest": {p.Tx(writes(a, 0, 1), api.Edit{Dest: root(9)}), 3},
	} {
		if l[0] != l[1] {
			t.Errorf("%s: %d, not %d", what, l[0], l[1])
		}
	}
	if code := p.Tx(make([]api.Edit, 16)...); code != api.ErrDest {
		t.Errorf("a batch of 16 edits of no object's slot: %d", code)
	}
}
