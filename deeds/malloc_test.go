package deeds_test

import (
	"slices"
	"testing"

	"trencher/api"
)

// is holds a list against numbers.
func is(t *testing.T, what string, got []int, want ...int) {
	t.Helper()
	if !slices.Equal(got, want) {
		t.Fatalf("%s: %v, not %v", what, got, want)
	}
}

// chain lets so many objects of so many words begin, of which each but the last one points to the next one: their addresses.
func (w *world) chain(words, many int) []int {
	w.t.Helper()
	var l []int
	d := root(0)
	for range many {
		at := w.do(malloc(d, words, 1)).At
		l = append(l, at)
		d = slot(at, 0)
	}
	return l
}

// unchained lets the last many of a chain end.
func (w *world) unchained(l []int, many int) {
	w.t.Helper()
	for range many {
		last := len(l) - 1
		d := root(0)
		if last > 0 {
			d = slot(l[last-1], 0)
		}
		w.gives(free(d), told(l[last]))
		l = l[:last]
	}
}

// The chapter's example; of the class 1 it is the last one of the four blocks that came to the cache.
func TestP19_1Example(t *testing.T) {
	for _, g := range []api.Geometry{least, middle, most} {
		w := fresh(t, g)
		w.stepwise = true
		at := spanAt(g, 0) + 12
		w.gives(malloc(root(0), 3, 0), told(at))
		w.gives(malloc(root(0), 3, 0), wrong(api.ErrSet))
		w.gives(free(root(0)), told(at))
		w.gives(free(root(0)), wrong(api.ErrNone))
	}
}

// Each number of words, with no slots, one, some, and as many as words.
func TestP19_1MallocWords(t *testing.T) {
	for words := 1; words <= 255; words++ {
		for _, slots := range []int{0, 1, words / 2, words - 1, words} {
			g := api.Geometry{Spans: 5, Lanes: 2, Roots: 2}
			w := fresh(t, g)
			at := spanAt(g, 0)
			if class := classOf(words); class < 4 {
				at += 3 * 2 << class
			}
			w.gives(malloc(root(1), words, slots), told(at))
			seen := w.region.Seen()
			if seen[at] != first(1, slots, words) || seen[9] != uint64(at) || seen[8] != 0 {
				t.Fatalf("%d, %d: %x", words, slots, seen[at])
			}
			for i := range words {
				if seen[at+1+i] != 0 {
					t.Fatalf("%d, %d: the word %d is left", words, slots, i)
				}
			}
			if end := at + 1 + words; end < len(seen) && seen[end] == 0 {
				t.Fatalf("%d, %d: the word behind is turned", words, slots)
			}
			w.gives(free(root(1)), told(at))
		}
	}
}

// The least and the greatest words of each class: which heads and maps there are then.
func TestP19_1MallocClasses(t *testing.T) {
	for _, c := range []struct {
		words, class, many int
		set                uint64
	}{{1, 0, 0, 8}, {2, 1, 0, 8}, {3, 1, 0, 8}, {4, 2, 0, 8}, {7, 2, 0, 8}, {8, 3, 0, 8}, {15, 3, 0, 8}, {16, 4, 1, 1}, {63, 4, 1, 1}, {64, 4, 2, 1}, {127, 4, 2, 1}, {128, 4, 3, 1}, {191, 4, 3, 1}, {192, 4, 4, 1}, {255, 4, 4, 1}} {
		g := api.Geometry{Spans: 6, Lanes: 1, Roots: 1}
		w := fresh(t, g)
		w.stepwise = true
		w.do(malloc(root(0), c.words, 0))
		want := make([]api.Head, 6)
		want[0] = api.Head{Kind: 1, Class: c.class}
		for i := range c.many {
			want[i] = api.Head{Kind: 3, Class: 4, Many: i}
		}
		if c.many > 0 {
			want[0] = api.Head{Kind: 2, Class: 4, Many: c.many}
		}
		seen := w.region.Seen()
		if got := w.heap.Heads(); !slices.Equal(got, want) || seen[headAt(g, 0)+1] != c.set || seen[headAt(g, 1)+1] != 0 {
			t.Errorf("%d: %v, %x", c.words, got, seen[headAt(g, 0)+1])
		}
	}
}

// Slots and words that may not be: which error comes first, and that no step is done.
func TestP19_1MallocRefused(t *testing.T) {
	for _, c := range []struct {
		words, slots int
		root         int
		want         api.Errno
	}{
		{3, 4, 0, 1}, {3, -1, 0, 1}, {1, 2, 0, 1}, {255, 256, 0, 1}, {256, 256, 0, 1}, {256, 257, 0, 1}, {1000, 256, 0, 1}, {0, 1, 0, 1}, {-1, 0, 0, 1}, {-1, -1, 0, 1}, {-3, -4, 0, 1},
		{256, 255, 0, 2}, {0, 0, 0, 2}, {256, 0, 0, 2}, {1000, 255, 0, 2}, {1 << 32, 0, 0, 2}, {1<<32 + 3, 3, 0, 2}, {65536 + 3, 0, 0, 2},
		{3, 4, 9, 1}, {0, 0, 9, 2}, {256, 0, -1, 2}, {256, 256, -1, 1},
		{3, 1 << 32, 0, 1}, {3, 1<<32 + 1, 0, 1}, {3, -1 << 32, 0, 1}, {1 << 40, 1 << 40, 0, 1},
		{3, 3, 4, 3}, {3, 3, -1, 3}, {255, 255, 4, 3}, {100, 0, 8, 3},
	} {
		w := fresh(t, middle)
		w.stepwise = true
		call := malloc(root(c.root), c.words, c.slots)
		w.gives(call, wrong(c.want))
		w.stepless(call)
	}
	for _, i := range wrongs(middle.Roots) {
		w := fresh(t, middle)
		w.gives(malloc(root(i), 3, 0), wrong(3))
		w.gives(malloc(root(i), 100, 0), wrong(3))
		w.stepless(malloc(root(i), 3, 0))
		w.stepless(malloc(root(i), 100, 0))
	}
}

// Of a destination that is a slot it isn't known ahead of the steps whether it is there.
func TestP19_1MallocNoSlot(t *testing.T) {
	w := fresh(t, middle)
	w.stepwise = true
	at := w.do(malloc(root(0), 3, 2)).At
	before := shelves(w.g, w.heap)
	for _, d := range []api.Dest{slot(at, 2), slot(at, -1), slot(at, 3), slot(at+1, 0), slot(at-4, 0), slot(0, 0), slot(8, 0), slot(-1, 0), slot(at, 1<<32)} {
		w.gives(malloc(d, 3, 0), wrong(3))
		w.gives(malloc(d, 2, 2), wrong(3))
	}
	if !same(shelves(w.g, w.heap), before) {
		t.Error(shelves(w.g, w.heap))
	}
	w.gives(malloc(slot(at, 2), 100, 0), wrong(3))
	w.gives(malloc(slot(at, 2), 1, 0), wrong(3))
	// The first of another class has carved a span, which stays so, with all its blocks.
	if h := w.heap.Heads(); h[1] != (api.Head{Kind: 1}) || len(w.heap.Cache(0, 0)) != 4 || len(w.heap.List(0)) != 28 {
		t.Error(h, w.heap.Cache(0, 0), w.heap.List(0))
	}
}

// A destination whose word isn't 0: the block is back in the cache, as the one that goes first.
func TestP19_1MallocSet(t *testing.T) {
	g := middle
	w := fresh(t, g)
	w.stepwise = true
	at := spanAt(g, 0)
	w.gives(malloc(root(0), 3, 1), told(at+12))
	w.gives(malloc(slot(at+12, 0), 3, 0), told(at+8))
	is(t, "cache", w.heap.Cache(0, 1), at, at+4)
	for _, d := range []api.Dest{root(0), slot(at+12, 0)} {
		w.gives(malloc(d, 3, 0), wrong(5))
		w.gives(malloc(d, 100, 0), wrong(5))
		is(t, "cache", w.heap.Cache(0, 1), at, at+4)
	}
	// With an empty cache it is refilled first; so it is for a who that has none yet.
	w.gives(by(2, malloc(root(0), 3, 0)), wrong(5))
	is(t, "cache", w.heap.Cache(2, 1), at+16, at+20, at+24, at+28)
	is(t, "cache", w.heap.Cache(0, 1), at, at+4)
	w.gives(by(2, malloc(root(1), 3, 0)), told(at+28))
	w.gives(malloc(root(2), 3, 0), told(at+4))
}

// Blocks of a class, one by one, till there are none: a cache that is refilled from a list with more than it takes, and the least free span that is carved for an empty list.
func TestP19_1MallocAll(t *testing.T) {
	for class, words := range []int{1, 3, 7, 15} {
		for _, g := range []api.Geometry{least, {Spans: 3, Lanes: 2, Roots: 1}} {
			w := fresh(t, g)
			var want []int
			for span := range g.Spans {
				l := blocksIn(g, span, class)
				for i := 0; i < len(l); i += 4 {
					want = append(want, l[i+3], l[i+2], l[i+1], l[i])
				}
			}
			l := w.chain(words, len(want))
			is(t, "chain", l, want...)
			w.gives(malloc(slot(l[len(l)-1], 0), words, 0), wrong(9))
			w.gives(malloc(slot(l[len(l)-1], 0), 16, 0), wrong(9))
			w.gives(malloc(root(0), words, 0), wrong(9))
			w.gives(malloc(slot(1, 0), words, 0), wrong(9))
			w.unchained(l, len(l))
			w = w.reopened()
			if heads := w.heap.Heads(); !slices.Equal(heads, make([]api.Head, g.Spans)) {
				t.Fatal(heads)
			}
			is(t, "chain", w.chain(words, len(want)), want...)
		}
	}
}

// A list with fewer blocks than a cache is refilled with, and one with none while others' caches have some.
func TestP19_1MallocRefill(t *testing.T) {
	g := api.Geometry{Spans: 1, Lanes: 3, Roots: 4}
	at := spanAt(g, 0)
	w := fresh(t, g)
	w.stepwise = true
	w.gives(by(1, malloc(root(0), 15, 0)), told(at+48))
	// The other three are in the cache of 1.
	w.gives(by(0, malloc(root(1), 15, 0)), wrong(9))
	w.gives(by(2, malloc(root(1), 15, 0)), wrong(9))
	w.gives(by(1, malloc(root(1), 15, 0)), told(at+32))
	w = w.reopened()
	// Once opened, they are in the list, the greatest one first.
	is(t, "list", w.heap.List(3), at, at+16)
	w.gives(by(2, malloc(root(2), 15, 0)), told(at))
	is(t, "cache", w.heap.Cache(2, 3), at+16)
	is(t, "list", w.heap.List(3))
	w.gives(by(0, malloc(root(3), 15, 0)), wrong(9))
	w.gives(by(2, malloc(root(3), 15, 0)), told(at+16))
	w.gives(by(2, malloc(root(3), 15, 0)), wrong(9))
}

// spansTaken is a world of six spans, of which those of the set are taken, each by an object of 63 words.
func spansTaken(t *testing.T, taken int) *world {
	g := api.Geometry{Spans: 6, Lanes: 1, Roots: 8}
	w := fresh(t, g)
	for i := range 6 {
		w.gives(malloc(root(i), 63, 0), told(spanAt(g, i)))
	}
	for i := range 6 {
		if taken>>i&1 == 0 {
			w.gives(free(root(i)), told(spanAt(g, i)))
		}
	}
	return w
}

// A large object takes the least spans in which there is just as much room as it asks for, or more; with one less it takes none. A span that is carved is the least free one.
func TestP19_1MallocRoom(t *testing.T) {
	words := []int{15, 63, 127, 191, 255, 8, 16, 64, 128, 192}
	for taken := range 64 {
		for i, n := range words {
			many := max(1, i%5) // as many spans as it asks for
			span := 0
			for span < 6 && (taken|64)>>span&(1<<many-1) != 0 {
				span++
			}
			w := spansTaken(t, taken)
			at := spanAt(w.g, span)
			switch {
			case span == 6:
				w.gives(malloc(root(7), n, n/2), wrong(9))
			case n < 16:
				w.gives(malloc(root(7), n, n/2), told(at+48))
			default:
				w.gives(malloc(root(7), n, n/2), told(at))
			}
		}
	}
}

// Without room that is told ahead of what is wrong with the destination.
func TestP19_1MallocNoRoom(t *testing.T) {
	w := spansTaken(t, 0b101101)
	w.stepwise = true
	for _, d := range []api.Dest{root(0), root(7), slot(1, 0), slot(spanAt(w.g, 0), 0)} {
		w.gives(malloc(d, 64, 0), wrong(9))
		w.gives(malloc(d, 255, 0), wrong(9))
	}
	w = spansTaken(t, 0b111111)
	w.stepwise = true
	for _, d := range []api.Dest{root(0), root(7), slot(1, 0)} {
		for _, words := range []int{1, 3, 7, 15, 16, 255} {
			w.gives(malloc(d, words, 0), wrong(9))
		}
	}
	w = spansTaken(t, 0b101101)
	w.gives(malloc(root(0), 63, 0), wrong(5))
	w.gives(malloc(slot(1, 0), 63, 0), wrong(3))
	w.gives(malloc(root(8), 64, 0), wrong(3))
	w.gives(malloc(root(7), 63, 0), told(spanAt(w.g, 1)))
}

// A destination in an object of each class, its first slot and its last one.
func TestP19_1MallocSlots(t *testing.T) {
	for _, words := range []int{1, 3, 7, 15, 63, 200, 255} {
		for _, i := range []int{0, words / 2, words - 1} {
			w := fresh(t, most)
			w.stepwise = true
			at := w.do(malloc(root(3), words, words)).At
			small := w.do(malloc(slot(at, i), 2, 1)).At
			w.gives(malloc(slot(at, i), 2, 0), wrong(5))
			w.gives(get(slot(at, i)), told(small))
			w.gives(malloc(slot(at, words), 2, 0), wrong(3))
			large := w.do(by(1, malloc(slot(small, 0), 64, 64))).At
			w.gives(get(slot(small, 0)), told(large))
		}
	}
}

// Of a region that was opened lists have blocks, caches none.
func TestP19_1MallocOpened(t *testing.T) {
	w := fresh(t, middle)
	l := w.chain(3, 21)
	w.unchained(l, 7)
	w = w.reopened()
	w.stepwise = true
	at := spanAt(w.g, 0)
	// Fourteen are left: 13 to 16 is a Batch that was handed out from the last one on.
	is(t, "list", w.heap.List(1), at+48, at+52)
	d := slot(l[13], 0)
	w.gives(malloc(d, 3, 1), told(at+48))
	w.gives(malloc(slot(at+48, 0), 3, 1), told(at+52))
	// The list is empty: the next span is carved.
	w.gives(malloc(slot(at+52, 0), 3, 1), told(at+64+12))
}
