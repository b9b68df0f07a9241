package deeds_test

import (
	"math"
	"slices"
	"testing"

	"trencher/api"
)

// turn lets a word be another one, in the region and in what there should be, kept in both.
func (w *world) turn(at int, x uint64) {
	w.region.Store(at, x)
	w.region.Flush(at)
	w.region.Fence()
	w.plain.kept(map[int]uint64{at: x})
}

// shared lets an object have so many that point to it, whatever there is.
func (w *world) shared(at, refs int) {
	w.plain.things[at].refs = refs
	w.turn(at, w.plain.things[at].first())
}

// refs is how many point to an object, by its first word.
func (w *world) refs(at int) int {
	x, _ := w.region.Load(at)
	return int(x % 65536)
}

// Pointers of roots and slots: to nothing, to an object, to another one, to itself, to what they point to already.
func TestP19_1Set(t *testing.T) {
	for _, sizes := range [][2]int{{3, 7}, {1, 255}, {100, 2}, {15, 15}} {
		w := fresh(t, most)
		w.stepwise = true
		a := w.do(malloc(root(0), sizes[0], 1)).At
		b := w.do(malloc(root(1), sizes[1], 2)).At
		for i, d := range []api.Dest{root(7), slot(a, 0), slot(b, 1), slot(b, 0)} {
			w.gives(get(d), told(0))
			w.gives(set(d, 0), told(0))
			w.gives(set(d, a), told(0))
			w.gives(get(d), told(a))
			if w.refs(a) != 2 || w.refs(b) != 1 {
				t.Fatal(i, w.refs(a), w.refs(b))
			}
			w.gives(set(d, a), told(a))
			w.gives(set(d, b), told(a))
			w.gives(set(d, b), told(b))
			if w.refs(a) != 1 || w.refs(b) != 2 {
				t.Fatal(i, w.refs(a), w.refs(b))
			}
			w.gives(by(3, set(d, 0)), told(b))
			w.gives(get(d), told(0))
		}
		if w.refs(a) != 1 || w.refs(b) != 1 {
			t.Fatal(w.refs(a), w.refs(b))
		}
		// The last one that points to an object goes: it is there all the same, with none.
		w.gives(set(root(0), b), told(a))
		if w.refs(a) != 0 || w.refs(b) != 2 {
			t.Fatal(w.refs(a), w.refs(b))
		}
		w.gives(set(slot(a, 0), a), told(0))
		w.gives(set(root(0), a), told(b))
	}
}

// How errors of Set are told, and in which order.
func TestP19_1SetRefused(t *testing.T) {
	w := fresh(t, middle)
	w.stepwise = true
	a := w.do(malloc(root(0), 3, 1)).At
	for _, d := range []api.Dest{root(4), root(-1), root(1 << 32), slot(a, 1), slot(a, -1), slot(a, 255), slot(a, 256), slot(a, 1<<32), slot(a+1, 0), slot(a-4, 0), slot(0, 0), slot(-1, 0)} {
		for _, target := range []int{0, a, a + 1, -1} {
			w.gives(set(d, target), wrong(3))
		}
		w.gives(get(d), wrong(3))
	}
	for _, target := range []int{a + 1, a - 4, a + 4, 1, 8, -1, -a, a + 1<<32, a - 1<<32, total(middle), 1 << 62, spanAt(middle, 1), headAt(middle, 0)} {
		w.gives(set(root(1), target), wrong(4))
		w.gives(set(slot(a, 0), target), wrong(4))
		w.gives(set(root(0), target), wrong(4))
	}
}

// A target that as many point to as may, and one less.
func TestP19_1SetFull(t *testing.T) {
	w := fresh(t, middle)
	w.stepwise = true
	a := w.do(malloc(root(0), 3, 2)).At
	b := w.do(malloc(root(1), 3, 1)).At
	w.shared(a, 65534)
	w.gives(set(root(2), a), told(0))
	w.gives(set(root(3), a), wrong(10))
	w.gives(set(slot(a, 0), a), wrong(10))
	w.gives(set(root(1), a), wrong(10))
	// What it is set to already is none more.
	w.gives(set(root(2), a), told(a))
	w.gives(set(root(2), b), told(a))
	w.gives(set(slot(b, 0), a), told(0))
	w.gives(set(root(2), a), wrong(10))
	w.gives(free(root(0)), wrong(7))
	w.gives(set(root(0), 0), told(a))
	w.gives(set(slot(a, 1), a), told(0))
	w.gives(set(slot(a, 0), a), wrong(10))
}

// Get of each root and of each slot.
func TestP19_1Get(t *testing.T) {
	g := most
	w := fresh(t, g)
	a := w.do(malloc(root(0), 255, 255)).At
	b := w.do(malloc(root(7), 15, 15)).At
	for i := range 255 {
		w.gives(set(slot(a, i), b), told(0))
		w.gives(get(slot(a, i)), told(b))
	}
	for i := range 15 {
		w.gives(set(slot(b, i), a), told(0))
	}
	for i := range 15 {
		w.gives(get(slot(b, i)), told(a))
	}
	for i := range 8 {
		w.gives(get(root(i)), told([]int{a, 0, 0, 0, 0, 0, 0, b}[i]))
	}
	for _, i := range wrongs(8) {
		w.gives(get(root(i)), wrong(3))
	}
	for _, i := range wrongs(255) {
		if i >= 0 && i < 255 {
			continue
		}
		w.gives(get(slot(a, i)), wrong(3))
	}
}

// Of a root the object of a destination doesn't count, nor of data whether it is a root.
func TestP19_1OtherFields(t *testing.T) {
	w := fresh(t, middle)
	w.stepwise = true
	a := w.do(malloc(root(0), 3, 1)).At
	for _, at := range []int{0, -1, a, a + 1, 1 << 40} {
		w.gives(get(api.Dest{Root: true, Object: at, Index: 0}), told(a))
		w.gives(set(api.Dest{Root: true, Object: at, Index: 1}, 0), told(0))
		w.gives(free(api.Dest{Root: true, Object: at, Index: 1}), wrong(6))
		w.gives(malloc(api.Dest{Root: true, Object: at, Index: 0}, 3, 0), wrong(5))
	}
	d := api.Dest{Root: true, Object: a, Index: 1}
	w.gives(api.Call{Kind: 5, Dest: d, X: 8}, api.Answer{})
	w.gives(api.Call{Kind: 6, Dest: d}, word(8))
	w.gives(api.Call{Kind: 7, Dest: d, Many: 1}, api.Answer{})
	w.gives(tx(api.Edit{Data: true, Dest: d, X: 9, Target: 5}), api.Answer{})
	w.gives(read(a, 1), word(9))
	// What a kind hasn't doesn't count.
	all := api.Call{Kind: 6, Dest: d, Words: -1, Slots: 300, Target: -5, Many: -1, X: 7, Edits: make([]api.Edit, 20)}
	w.gives(all, word(9))
	all.Kind, all.Dest = 4, root(0)
	w.gives(all, told(a))
	all.Kind = 2
	w.gives(all, told(a))
}

// scene is a world with objects of each class and free blocks of each, and blocks whose bits or first words are such that no object is there: at which addresses objects are, and all others that are looked at.
func scene(t *testing.T) (w *world, there, nothing []int) {
	g := api.Geometry{Spans: 10, Lanes: 2, Roots: 8}
	w = fresh(t, g)
	for i, n := range []int{1, 3, 7, 15, 63, 127} {
		w.do(malloc(root(i), n, (n+1)/2))
	}
	at := spanAt(g, 1)
	words := w.region.Seen()
	// Of the class 1 the span 1 has its fourth block taken. The first one has what would be an object's first word, but not the bit.
	words[at] = first(1, 1, 3)
	// These have the bit, and no object's first word: none's, that of a lesser class, of a greater one, of large ones, of too many slots, of a higher bit, and junk.
	for i, x := range []uint64{0, first(1, 1, 1), first(1, 1, 4), first(1, 0, 63), first(1, 4, 3), first(1, 0, 3) + 1<<32, first(1, 0, 3) + 1<<63, 1, 65536} {
		words[at+4*(i+5)] = x
		words[headAt(g, 1)+1] |= 1 << (i + 5)
	}
	// A large one whose bit isn't there, and one that has another bit alone.
	words[headAt(g, 8)], words[spanAt(g, 8)] = headWord(2, 4, 1), first(1, 1, 63)
	words[headAt(g, 9)], words[headAt(g, 9)+1], words[spanAt(g, 9)] = headWord(2, 4, 1), 1<<63-1<<1, first(1, 1, 63)
	w = over(t, words, w.plain.clone())
	w.odd = true
	there = w.plain.addresses()
	for a := -9; a < total(g)+9; a++ {
		if !slices.Contains(there, a) {
			nothing = append(nothing, a)
		}
	}
	for _, a := range there {
		nothing = append(nothing, -a, a+1<<14, a+1<<16, a+1<<32, a-1<<32, a+1<<62, a+math.MinInt)
	}
	return w, there, nothing
}

// Each address at which no object is, and each at which one is.
func TestP19_1NoObject(t *testing.T) {
	w, there, nothing := scene(t)
	for _, at := range there {
		w.gives(get(slot(at, 0)), told(0))
		w.gives(set(root(7), at), told(w.plain.roots[7]))
	}
	w.gives(set(root(7), 0), told(there[len(there)-1]))
	for i, at := range nothing {
		w.gives(get(slot(at, 0)), wrong(3))
		w.gives(read(at, 0), wrong(4))
		if at != 0 {
			w.gives(set(root(7), at), wrong(4))
			w.gives(tx(points(root(7), at)), wrong(4))
		}
		// The others take long: each is tried with some addresses.
		for j, c := range []api.Call{free(slot(at, 0)), set(slot(at, 0), there[0]), set(slot(at, 0), 0), malloc(slot(at, 0), 40, 0), malloc(slot(at, 0), 3, 0), tx(points(slot(at, 0), 0)), tx(points(slot(at, 0), there[0]))} {
			if (i+j)%4 == 0 {
				w.gives(c, wrong(3))
			}
		}
		for j, c := range []api.Call{write(at, 0, 1), persist(at, 0, 1), persist(at, -1, 0), write(at, -1, 0), tx(writes(at, 0, 1))} {
			if (i+j)%4 == 0 {
				w.gives(c, wrong(4))
			}
		}
	}
}
