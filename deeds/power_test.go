package deeds_test

import (
	"testing"

	"trencher/api"
	"trencher/env"
	"trencher/mark"
	"trencher/mend"
)

// isImage tells whether an image is one of these objects and no others, with nothing to be replayed.
func isImage(p *plain, words []uint64) bool {
	for i, to := range p.roots {
		if words[rootAt(i)] != uint64(to) {
			return false
		}
	}
	sets := map[int]uint64{}
	for at, x := range p.things {
		set, bit := p.mapOf(at, classOf(x.words()))
		sets[set] |= bit
		if words[at] != x.first() {
			return false
		}
		for i, to := range x.slots {
			if words[at+1+i] != uint64(to) {
				return false
			}
		}
		for i, d := range x.data {
			if words[at+1+len(x.slots)+i] != d {
				return false
			}
		}
	}
	for span := range p.g.Spans {
		if at := headAt(p.g, span) + 1; words[at] != sets[at] {
			return false
		}
	}
	for n := range p.g.Lanes {
		if words[laneAt(n)] != 0 {
			return false
		}
	}
	return true
}

// picks are ways to pick what is kept.
func picks() []func(int) int {
	by, all := 0, chance(77)
	return []func(int) int{
		func(int) int { return 0 },
		func(many int) int { return many - 1 },
		func(many int) int { by++; return by % 2 * (many - 1) },
		func(many int) int { by++; return (by + 1) % 3 % 2 * (many - 1) },
		all,
		all,
	}
}

// crashed lets power fail behind so many steps of a call, in each way: opened, the region is as ahead of the call, or as behind it; once it is over, as behind it, if it is one that publishes.
func crashed(t *testing.T, made func() *world, c api.Call, steps int, ahead, behind *plain) {
	t.Helper()
	for i, pick := range picks() {
		w := made()
		x := w.run(c)
		x.All(steps)
		w.region.Crash(pick)
		words, code := mend.Mended(w.region.Seen())
		if code != api.OK {
			t.Fatalf("%+v: behind %d steps, pick %d: %d", c, steps, i, code)
		}
		if !isImage(behind, words) && (x.Over() || !isImage(ahead, words)) {
			t.Fatalf("%+v: behind %d steps, pick %d: neither", c, steps, i)
		}
		if n := mark.Garbage(w.g, words); n != 0 {
			t.Fatalf("%+v: behind %d steps, pick %d: %d of garbage", c, steps, i, n)
		}
	}
}

// Wherever power fails, a call that publishes was done or wasn't.
func TestP19_1Power(t *testing.T) {
	w := fresh(t, api.Geometry{Spans: 8, Lanes: 2, Roots: 4})
	a := w.do(malloc(root(0), 7, 3)).At
	b := w.do(malloc(slot(a, 0), 3, 1)).At
	c := w.do(malloc(slot(a, 1), 100, 2)).At
	d := w.do(malloc(root(1), 1, 0)).At
	w.do(set(slot(b, 0), a))
	w.do(write(a, 1, 5))
	w.do(persist(a, 0, 4))
	words := w.region.Seen()
	base := w.plain
	made := func() *world { return over(t, words, base.clone()) }
	for _, call := range []api.Call{
		malloc(root(2), 3, 1), malloc(root(2), 15, 0), malloc(root(2), 40, 3), malloc(root(2), 191, 1), malloc(slot(c, 1), 1, 0), by(1, malloc(slot(a, 2), 7, 7)), malloc(root(0), 3, 0), malloc(slot(a, 3), 3, 0),
		free(root(1)), free(slot(a, 1)), by(1, free(slot(a, 1))), free(slot(a, 0)), free(root(0)),
		set(root(2), a), set(root(0), d), set(slot(b, 0), 0), set(slot(b, 0), c), set(slot(a, 0), a), set(slot(a, 1), 0), by(1, set(root(3), c)), set(root(2), 1),
		get(root(0)), read(a, 0), persist(a, 0, 4), write(a, 2, 9),
		tx(writes(a, 0, 1), writes(a, 3, 2), writes(c, 97, 3), writes(c, 0, 4), writes(d, 0, 5)),
		tx(points(root(2), b), points(slot(a, 0), 0), points(slot(b, 0), d), points(root(1), 0)),
		by(1, tx(points(slot(a, 1), 0), points(root(0), c), points(slot(a, 2), d), points(root(3), a), writes(a, 1, 8))),
		tx(points(root(2), a), points(root(2), 0)), tx(writes(a, 0, 1), points(root(9), 0)),
	} {
		w := made()
		x := w.run(call)
		x.All(-1)
		w.plain.do(call, api.Answer{})
		ahead, behind := base.opened(), w.plain.opened()
		if call.Kind == api.CallWrite {
			// It is stored, and no more: even when it is over it may be lost.
			for steps := range x.Steps() {
				crashed(t, made, call, steps, ahead, behind)
			}
			continue
		}
		for steps := range x.Steps() + 1 {
			crashed(t, made, call, steps, ahead, behind)
		}
	}
}

// Likewise while a cache is drained, and a span is released.
func TestP19_1PowerDrain(t *testing.T) {
	g := api.Geometry{Spans: 5, Lanes: 1, Roots: 1}
	var l []int
	made := func() *world {
		w := fresh(t, g)
		l = w.chain(15, 12)
		w.unchained(l, 8)
		return w
	}
	w := made()
	ahead := w.plain.opened()
	call := free(w.before(l, 3))
	x := w.run(call)
	x.All(-1)
	w.plain.do(call, api.Answer{})
	if w.heap.Heads()[2] != (api.Head{}) {
		t.Fatal(w.heap.Heads())
	}
	for steps := range x.Steps() + 1 {
		crashed(t, made, call, steps, ahead, w.plain.opened())
	}
}

// What is persisted holds its numbers, wherever power fails in what comes behind; what is written alone may be kept or not.
func TestP19_1PowerWritten(t *testing.T) {
	for i, pick := range picks() {
		w, a, b := two(t, middle)
		w.do(write(a, 0, 5))
		w.do(write(a, 1, 6))
		w.do(write(a, 4, 7))
		w.do(persist(a, 0, 2))
		w.do(write(a, 1, 8))
		w.do(set(root(2), b)) // by which no line of the object a is flushed
		w.region.Crash(pick)
		words, _ := mend.Mended(w.region.Seen())
		d := a + 3
		if words[d] != 5 || words[d+1] != 6 && words[d+1] != 8 || words[d+4] != 0 && words[d+4] != 7 || i == 0 && words[d+1] != 6 || i == 1 && words[d+1] != 8 {
			t.Fatal(i, words[d:d+5])
		}
	}
}

// The head of a span that is carved is kept ahead of any object in it.
func TestP19_1PowerCarved(t *testing.T) {
	for _, words := range []int{1, 3, 7, 15} {
		w := fresh(t, middle)
		x := w.run(malloc(root(0), words, 0))
		for len(w.heap.Cache(0, classOf(words))) == 0 {
			if x.Step() != env.Stepped {
				t.Fatal(words)
			}
		}
		if got := w.region.Kept()[headAt(middle, 0)]; got != headWord(1, classOf(words), 0) || w.region.Kept()[8] != 0 {
			t.Fatalf("%d: %x", words, got)
		}
	}
}
