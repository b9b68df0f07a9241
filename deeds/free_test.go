package deeds_test

import (
	"math"
	"slices"
	"testing"

	"trencher/api"
	"trencher/heap"
)

// Refs of one and of two; slots that are all 0, and one that isn't, whichever; a destination that isn't there, and one that points to nothing.
func TestP19_1Free(t *testing.T) {
	for _, words := range []int{1, 3, 7, 15, 63, 255} {
		for _, slots := range []int{0, 1, words} {
			w := fresh(t, most)
			w.stepwise = true
			at := w.do(malloc(root(0), words, slots)).At
			w.do(set(root(1), at))
			w.gives(free(root(0)), wrong(7))
			w.gives(free(root(1)), wrong(7))
			w.gives(set(root(1), 0), told(at))
			w.gives(free(root(1)), wrong(6))
			w.gives(free(root(8)), wrong(3))
			w.gives(free(root(-1)), wrong(3))
			for _, i := range []int{0, slots / 2, slots - 1} {
				if slots == 0 {
					continue
				}
				other := w.do(malloc(slot(at, i), 3, 0)).At
				w.gives(free(root(0)), wrong(8))
				w.gives(free(slot(at, i)), told(other))
				w.gives(free(slot(at, i)), wrong(6))
			}
			w.gives(free(slot(at, slots)), wrong(3))
			w.gives(free(slot(at, -1)), wrong(3))
			w.gives(free(slot(at+1, 0)), wrong(3))
			w.gives(free(root(0)), told(at))
			w.gives(free(slot(at, 0)), wrong(3))
			w.gives(free(root(0)), wrong(6))
		}
	}
}

// An object that points to itself: by a root and a slot it is shared; by its slot alone it is held.
func TestP19_1FreeItself(t *testing.T) {
	for _, words := range []int{3, 100} {
		w := fresh(t, middle)
		at := w.do(malloc(root(0), words, 2)).At
		w.do(set(slot(at, 1), at))
		w.gives(free(root(0)), wrong(7))
		w.gives(free(slot(at, 1)), wrong(7))
		w.gives(set(root(0), 0), told(at))
		// Now it is garbage, which is there all the same.
		w.gives(free(slot(at, 1)), wrong(8))
		w.gives(set(root(1), at), told(0))
		w.gives(set(slot(at, 1), 0), told(at))
		w.gives(free(root(1)), told(at))
	}
}

// Where words aren't as they should be: an object to which none points by its first word isn't freed, nor is what is none.
func TestP19_1FreeWrong(t *testing.T) {
	w := fresh(t, middle)
	w.stepwise = true
	at := w.do(malloc(root(0), 3, 0)).At
	w.shared(at, 0)
	w.gives(free(root(0)), wrong(7))
	w.shared(at, 65535)
	w.gives(free(root(0)), wrong(7))
	w.shared(at, 1)
	w.gives(free(root(0)), told(at))
	for _, to := range []uint64{uint64(at), uint64(at) + 1, 1, 1 << 63, math.MaxUint64, uint64(spanAt(middle, 3))} {
		w.turn(rootAt(1), to)
		was := w.now()
		x := w.run(free(root(1)))
		x.All(-1)
		is := w.now()
		if l := x.Answer(); l[0] == 0 || l[1] != 0 || !slices.Equal(is.words, was.words) || !same(is.shelves, was.shelves) || w.locks.Owner(1) >= 0 {
			t.Fatal(to, l)
		}
	}
}

// Garbage is freed from garbage.
func TestP19_1FreeGarbage(t *testing.T) {
	w := fresh(t, middle)
	w.stepwise = true
	a := w.do(malloc(root(0), 3, 2)).At
	b := w.do(malloc(slot(a, 0), 100, 1)).At
	c := w.do(malloc(slot(b, 0), 1, 0)).At
	w.gives(set(root(0), 0), told(a))
	w.gives(free(slot(a, 0)), wrong(8))
	w.gives(free(slot(b, 0)), told(c))
	w.gives(free(slot(a, 0)), told(b))
	w.gives(set(root(3), a), told(0))
	w.gives(free(root(3)), told(a))
}

// What is freed goes to the cache of the who that frees it, as the one that goes first.
func TestP19_1FreeCache(t *testing.T) {
	g := middle
	w := fresh(t, g)
	w.stepwise = true
	at := spanAt(g, 0)
	for i := range 4 {
		w.do(malloc(root(i), 7, 0))
	}
	w.gives(by(2, free(root(1))), told(at+16))
	w.gives(by(2, free(root(3))), told(at))
	w.gives(by(1, free(root(0))), told(at+24))
	is(t, "cache", w.heap.Cache(2, 2), at+16, at)
	is(t, "cache", w.heap.Cache(1, 2), at+24)
	is(t, "cache", w.heap.Cache(0, 2))
	w.gives(by(2, malloc(root(0), 7, 0)), told(at))
	w.gives(by(1, malloc(root(1), 7, 0)), told(at+24))
	w.gives(by(2, malloc(root(3), 7, 0)), told(at+16))
}

// A cache that has as many as it keeps, and one more: it is drained, and the least empty span is released.
func TestP19_1FreeDrain(t *testing.T) {
	g := api.Geometry{Spans: 5, Lanes: 1, Roots: 1}
	w := fresh(t, g)
	w.stepwise = true
	l := w.chain(15, 12)
	small, none := api.Head{Kind: 1, Class: 3}, api.Head{}
	w.unchained(l, 8)
	if len(w.heap.Cache(0, 3)) != heap.Keep || !slices.Equal(w.heap.Heads(), []api.Head{small, small, small, none, none}) {
		t.Fatal(w.heap.Cache(0, 3), w.heap.Heads())
	}
	w.unchained(l[:4], 1)
	// The four that came first are all those of the span 2.
	if !slices.Equal(w.heap.Heads(), []api.Head{small, small, none, none, none}) {
		t.Fatal(w.heap.Heads())
	}
	is(t, "list", w.heap.List(3))
	at := spanAt(g, 0)
	is(t, "cache", w.heap.Cache(0, 3), at+64, at+80, at+96, at+112, at)
	w.unchained(l[:3], 3)
	is(t, "cache", w.heap.Cache(0, 3), at+64, at+80, at+96, at+112, at, at+16, at+32, at+48)
	if w.heap.Heads()[1] != small {
		t.Fatal(w.heap.Heads())
	}
}

// A cache that is drained of blocks of several spans: none is empty, so that none is released, till the last of its blocks is in the list.
func TestP19_1FreeDrainNone(t *testing.T) {
	for class, words := range []int{1, 3, 7, 15} {
		g := api.Geometry{Spans: 4, Lanes: 2, Roots: 1}
		w := fresh(t, g)
		n := 32 >> class
		l := w.chain(words, 3*n)
		// By turns from both whos, so that both caches have blocks of all spans.
		for i := range l {
			w.gives(by(i%2, free(w.before(l, len(l)-1-i))), told(l[len(l)-1-i]))
		}
		drained := 0
		for _, h := range w.heap.Heads() {
			if h == (api.Head{}) {
				drained++
			}
		}
		if drained < 1 || len(w.heap.Cache(0, class)) > 8 || len(w.heap.Cache(1, class)) > 8 {
			t.Fatal(class, w.heap.Heads(), w.heap.Cache(0, class))
		}
	}
}

// before is the destination that points to one of a chain.
func (w *world) before(l []int, i int) api.Dest {
	if i == 0 {
		return root(0)
	}
	return slot(l[i-1], 0)
}

// emptied is a world in which these spans are small, of these classes, and all their blocks in lists, beside a chain of so many objects of 15 words.
func emptied(t *testing.T, g api.Geometry, many int, classes map[int]int) (*world, []int) {
	t.Helper()
	w := fresh(t, g)
	l := w.chain(15, many)
	words := w.region.Seen()
	for span, class := range classes {
		words[headAt(g, span)] = headWord(1, class, 0)
	}
	return over(t, words, w.plain.clone()), l
}

// Of several empty spans the least one is released, of whichever class; and none without a drain.
func TestP19_1FreeLeastEmpty(t *testing.T) {
	g := api.Geometry{Spans: 8, Lanes: 2, Roots: 1}
	for _, c := range []struct {
		classes map[int]int
		want    int
	}{
		{map[int]int{3: 0, 5: 3}, 3}, {map[int]int{5: 0, 3: 3}, 3}, {map[int]int{7: 1, 6: 2}, 6}, {map[int]int{4: 2}, 4}, {map[int]int{7: 3}, 7}, {map[int]int{3: 1, 4: 1, 5: 1}, 3},
	} {
		w, l := emptied(t, g, 12, c.classes)
		w.stepwise = true
		heads := w.heap.Heads()
		w.unchained(l, 8)
		if !slices.Equal(w.heap.Heads(), heads) {
			t.Fatalf("%v: %v", c.classes, w.heap.Heads())
		}
		// With the ninth one the list has all of the span 2, too.
		w.unchained(l[:4], 1)
		heads[min(2, c.want)] = api.Head{}
		if !slices.Equal(w.heap.Heads(), heads) {
			t.Fatalf("%v: %v", c.classes, w.heap.Heads())
		}
	}
	// Here the span 0 is empty ahead of any drain.
	w, l := emptied(t, g, 0, map[int]int{0: 3, 4: 1})
	// The list of an image has the greatest addresses last: the first Batch is 60, 56, 52, 48.
	w.gives(malloc(root(0), 2, 1), told(spanAt(g, 4)+48))
	l = append(l, spanAt(g, 4)+48)
	for range 13 {
		at := w.do(malloc(slot(l[len(l)-1], 0), 2, 1)).At
		l = append(l, at)
	}
	w.unchained(l, 6)
	if w.heap.Heads()[0].Kind != 1 {
		t.Fatal(w.heap.Heads())
	}
	// The cache had two: with six it has eight, and this is one more.
	w.unchained(l[:8], 1)
	if w.heap.Heads()[0].Kind != 0 || w.heap.Heads()[4].Kind != 1 {
		t.Fatal(w.heap.Heads())
	}
}

// The spans of a large object are free behind it, and those of others aren't; caches and lists have nothing of it.
func TestP19_1FreeLarge(t *testing.T) {
	g := api.Geometry{Spans: 10, Lanes: 2, Roots: 4}
	for many := 1; many <= 4; many++ {
		w := fresh(t, g)
		w.stepwise = true
		w.do(malloc(root(0), 63, 0))
		at := w.do(malloc(root(1), 64*many-1, 3)).At
		w.do(malloc(root(2), 127, 0))
		w.do(malloc(root(3), 3, 0))
		before := shelves(g, w.heap)
		w.gives(by(1, free(root(1))), told(at))
		seen := w.region.Seen()
		for i := range 6 {
			span := 1 + i
			gone := i < many
			if h := w.heap.Heads()[span]; gone != (h == api.Head{}) && i < many+3 {
				t.Fatal(many, span, h)
			}
			if x := seen[headAt(g, span)]; gone && x != 0 {
				t.Fatal(many, span, x)
			}
		}
		if seen[headAt(g, 1)+1] != 0 || seen[at] != 0 || !same(shelves(g, w.heap), before) {
			t.Fatal(many, seen[at])
		}
		w.gives(malloc(root(1), 64*many-1, 0), told(at))
	}
}

// Many objects begin and end, one class at a time and mixed, by one who and by several, so that caches are drained and spans released again and again.
func TestP19_1FreeAndMalloc(t *testing.T) {
	for seed, g := range []api.Geometry{{Spans: 10, Lanes: 1, Roots: 8}, {Spans: 14, Lanes: 2, Roots: 8}, {Spans: 16, Lanes: 4, Roots: 8}} {
		w := fresh(t, g)
		next := chance(seed)
		var hub []int
		for i := range 2 {
			hub = append(hub, w.do(malloc(root(i), 63, 60)).At)
		}
		released := 0
		for i := range 6000 {
			d := slot(hub[next(2)], next(60))
			words := []int{15, 7, 15, 15, 3, 63}[i/800%4+next(12)/11*2]
			c := get(d)
			// By turns mostly what begins, and mostly what ends.
			switch cell, _ := w.plain.dest(d); {
			case *cell == 0 && next(8) > i/400%2*6:
				c = malloc(d, words, 0)
			case *cell != 0 && next(8) < i/400%2*7+1:
				c = free(d)
			}
			heads := w.heap.Heads()
			w.do(by(next(g.Lanes), c))
			for span, h := range w.heap.Heads() {
				if h == (api.Head{}) && heads[span].Kind == 1 {
					released++
				}
			}
		}
		if released == 0 {
			t.Error(g, "no span was released")
		}
	}
}
