package deeds_test

import (
	"slices"
	"testing"

	"trencher/api"
	"trencher/deeds"
	"trencher/env"
)

// held does a call while somebody else has a lock: whether it was blocked by that. If it was, it turns nothing, however often it is tried, till the lock is left.
func (w *world) held(lock int, c api.Call) bool {
	w.t.Helper()
	w.wiped()
	w.locks.Take(lock, 9)
	want := w.plain.do(c, api.Answer{})
	x := w.run(c)
	blocked := x.All(-1) == api.ErrSet
	if blocked {
		was, steps, all := w.now(), x.Steps(), w.region.Steps()
		for range 3 {
			if s := x.Step(); s != env.Blocked {
				w.t.Fatalf("%+v: %d", c, s)
			}
		}
		is := w.now()
		if x.Steps() != steps || w.region.Steps() != all || !slices.Equal(is.words, was.words) || !slices.Equal(is.kept, was.kept) || !same(is.shelves, was.shelves) || w.locks.Owner(lock) != 9 {
			w.t.Fatalf("%+v: blocked, a step turns something", c)
		}
	}
	if w.locks.Owner(lock) != 9 {
		w.t.Fatalf("%+v: the lock %d was left for another one", c, lock)
	}
	w.locks.Leave(lock, 9)
	if code := x.All(-1); code != api.OK {
		w.t.Fatalf("%+v: %d", c, code)
	}
	if got := deeds.Answer(x.Answer()); got != want || len(w.locks.Of(c.Who)) != 0 {
		w.t.Fatalf("%+v: %v, not %v", c, got, want)
	}
	w.holds(c)
	return blocked
}

// LockPublish is asked for by whatever looks at what is published.
func TestP19_3LockPublish(t *testing.T) {
	w, a, b := two(t, middle)
	for _, c := range append(each(a, b), malloc(slot(a, 0), 3, 0), malloc(slot(a, 5), 3, 0), malloc(root(0), 3, 0), malloc(root(0), 100, 0), free(root(3)), free(root(9)), free(slot(a, 9)), get(root(9)), get(slot(1, 0)), set(root(9), 0), set(root(2), 1), set(root(2), 0), read(a, 99), read(1, 0), write(a, -1, 0), persist(a, 0, 0), tx(points(root(9), 0)), tx(points(root(2), 0)), tx(), tx(make([]api.Edit, 17)...)) {
		if !w.held(1, c) {
			t.Fatalf("%+v: isn't blocked", c)
		}
	}
	// Without a block there is nothing to be published.
	w = spansTaken(t, 0b111111)
	if w.held(1, malloc(root(7), 3, 0)) {
		t.Fatal("blocked")
	}
}

// LockHeap is asked for by what needs lists or free spans, and by nothing else.
func TestP19_3LockHeap(t *testing.T) {
	w, a, b := two(t, middle)
	for _, c := range []struct {
		call api.Call
		want bool
	}{
		{malloc(root(2), 3, 0), false}, // the cache has some
		{free(root(2)), false},
		{malloc(root(2), 1, 0), true}, // it has none of that class
		{malloc(root(3), 1, 0), false},
		{free(root(2)), false},
		{by(1, malloc(root(2), 1, 0)), true},
		{by(1, free(root(2))), false},
		{by(1, malloc(root(2), 1, 0)), false},
		{by(1, malloc(root(0), 1, 0)), false},
		{by(2, malloc(root(0), 1, 0)), true},
		{by(2, malloc(slot(1, 0), 7, 0)), true},
		{by(2, malloc(slot(1, 0), 7, 0)), false},
		{free(root(2)), false},
		{malloc(root(2), 100, 0), true},
		{free(root(2)), false},
		{malloc(root(0), 100, 0), true},
		{malloc(slot(1, 0), 100, 0), true},
		{set(slot(a, 0), b), false},
		{set(slot(a, 0), 0), false},
		{get(root(0)), false},
		{write(a, 0, 1), false},
		{read(a, 0), false},
		{persist(a, 0, 1), false},
		{tx(writes(a, 0, 2), points(root(2), b)), false},
		{tx(), false},
		{malloc(root(9), 100, 0), false},
		{malloc(root(2), 300, 0), false},
	} {
		if got := w.held(0, c.call); got != c.want {
			t.Fatalf("%+v: %v", c.call, got)
		}
	}
	// A cache that is drained, and no other one.
	w = fresh(t, middle)
	l := w.chain(15, 12)
	for i := 11; i > 0; i-- {
		if got := w.held(0, free(w.before(l, i))); got != (i == 3) {
			t.Fatal(i, got)
		}
	}
}

// A large object is begun under both locks.
func TestP19_3LargeLocks(t *testing.T) {
	for lock := range 2 {
		w, a, _ := two(t, middle)
		x := w.run(malloc(slot(a, 0), 100, 0))
		both := 0
		for x.Step() == env.Stepped {
			if len(w.locks.Of(0)) == 2 {
				both++
			}
		}
		if both < 100 {
			t.Fatal(lock, both)
		}
	}
}

// wrongCalls has calls of all errors that there are, on a world of two (in six spans, three lanes, four roots) of which b has as many that point to it as may.
func wrongCalls(a, b int) []api.Call {
	return []api.Call{
		{}, {Kind: 9, Dest: root(0)}, by(3, get(root(0))),
		malloc(root(2), 3, 4), malloc(root(2), 0, 0), malloc(root(2), 256, 0), malloc(root(4), 3, 0), malloc(slot(a, 2), 3, 0), malloc(slot(a, 2), 15, 0), malloc(slot(a, 2), 100, 0), malloc(root(0), 3, 0), malloc(root(0), 1, 0), malloc(root(0), 100, 0), by(2, malloc(root(1), 7, 0)),
		free(root(4)), free(slot(a, 2)), free(root(2)), free(slot(a, 1)), free(root(1)), free(root(0)),
		set(root(4), 0), set(slot(a, 2), a), set(root(2), a+1), set(root(2), b), set(root(0), b), set(slot(b, 0), b),
		get(root(4)), get(slot(a, 2)), get(slot(a+1, 0)),
		write(a, 5, 1), write(a, -1, 1), write(a+1, 0, 1), read(a, 5), read(b+1, 0), persist(a, 0, 6), persist(a, 0, 0), persist(a+1, 0, 1),
		tx(), tx(make([]api.Edit, 17)...), tx(writes(a, 0, 1), points(slot(a, 1), a), points(root(2), b)), tx(writes(a, 0, 1), writes(a, 5, 1)), tx(points(slot(a, 0), 0), points(root(4), 0)), tx(points(slot(a, 1), a), points(slot(a, 1), a+1)),
	}
}

// With an error nothing that was published turns, at none of its steps; and when it is over it has no lock.
func TestP19_3Nothing(t *testing.T) {
	w, a, b := two(t, middle)
	w.do(set(slot(a, 0), b))
	w.do(write(a, 0, 4))
	w.do(set(root(3), a))
	w.shared(b, 65535)
	w.stepwise = true
	published := func() []uint64 {
		l := w.region.Seen()[8 : 8+middle.Roots]
		for span := range middle.Spans {
			l = append(l, w.region.Seen()[headAt(middle, span)+1])
		}
		l = append(l, w.region.Seen()[a:a+8]...)
		return append(l, w.region.Seen()[b:b+4]...)
	}
	for _, c := range wrongCalls(a, b) {
		was := published()
		x := w.run(c)
		for !x.Over() {
			x.Step()
			if !slices.Equal(published(), was) {
				t.Fatalf("%+v: the step %d turns what was published", c, x.Steps())
			}
		}
		if l := x.Answer(); l[0] == 0 || l[1] != 0 || l[2] != 0 || w.locks.Owner(0) >= 0 || w.locks.Owner(1) >= 0 {
			t.Fatalf("%+v: %v", c, l)
		}
		w.plain.do(c, api.Answer{})
		w.wiped()
		w.holds(c)
	}
	// No lane was written for any of them.
	for n := range middle.Lanes {
		if w.region.Seen()[laneAt(n)] != 0 {
			t.Fatal(n)
		}
	}
}
