package open_test

import (
	"slices"
	"testing"

	"trencher/api"
	"trencher/heap"
	"trencher/image"
	"trencher/mend"
	"trencher/open"
)

// plainLists are what the lists of a picture's heap have, by classes: the blocks of small spans whose bits are 0, rising.
func plainLists(p picture) [4][]int {
	var l [4][]int
	for _, b := range p.places() {
		h := p.heads[b.span]
		if h.Kind == 1 && p.words[mapAt(p.g, b.span)]>>b.index&1 == 0 {
			l[h.Class] = append(l[h.Class], p.at(b.span, b.index))
		}
	}
	return l
}

// isHeapOf checks that a heap is that of a picture: its heads, its lists, caches that are empty.
func isHeapOf(t *testing.T, what any, h *heap.Heap, p picture) {
	t.Helper()
	if !slices.Equal(h.Heads(), p.heads) {
		t.Fatalf("%v: heads %v, not %v", what, h.Heads(), p.heads)
	}
	lists := plainLists(p)
	for class, want := range lists {
		if got := h.List(class); !slices.Equal(got, want) {
			t.Fatalf("%v: list %d: %v, not %v", what, class, got, want)
		}
		for n := range p.g.Lanes {
			if l := h.Cache(n, class); len(l) > 0 {
				t.Fatalf("%v: the cache of %d for %d: %v", what, n, class, l)
			}
		}
	}
	all := slices.Concat(lists[:]...)
	slices.Sort(all)
	if got := h.Free(); !slices.Equal(got, all) {
		t.Fatalf("%v: free %v, not %v", what, got, all)
	}
}

// hasHeap checks what is told of a picture's heap, also beside layer 18's of its heads and maps, and that the picture is left as it is.
func hasHeap(t *testing.T, what any, p picture) {
	t.Helper()
	was := slices.Clone(p.words)
	g, h, code := open.Heap(p.words)
	if g != p.g || h == nil || code != api.OK {
		t.Fatalf("%v: %v, %d", what, g, code)
	}
	isHeapOf(t, what, h, p)
	heads, _ := image.Heads(p.g, p.words)
	beside := heap.New(p.g, heads, image.Maps(p.g, p.words))
	for lane := range p.g.Lanes + 1 {
		if got, want := h.Refill(lane, lane%4), beside.Refill(lane, lane%4); got != want || !slices.Equal(h.Cache(lane, lane%4), beside.Cache(lane, lane%4)) {
			t.Fatalf("%v: %d come to %d, not %d", what, got, lane, want)
		}
	}
	if h.Empty() != beside.Empty() || h.Room(2) != beside.Room(2) {
		t.Fatalf("%v: empty %d, room %d", what, h.Empty(), h.Room(2))
	}
	if differ(p.words, was) >= 0 {
		t.Fatalf("%v: the words turned", what)
	}
}

// hasNoHeap checks that words have none, and that nothing else is told beside that.
func hasNoHeap(t *testing.T, what any, words []uint64) {
	t.Helper()
	was := slices.Clone(words)
	if g, h, code := open.Heap(words); g != (api.Geometry{}) || h != nil || code != api.ErrCorrupt {
		t.Fatalf("%v: %v, %v, %d", what, g, h != nil, code)
	}
	if differ(words, was) >= 0 {
		t.Fatalf("%v: the words turned", what)
	}
}

// A fresh image's heap has spans that are free, and no block. Of all geometries that may be.
func TestP20_1HeapFresh(t *testing.T) {
	for _, g := range everyGeometry() {
		hasHeap(t, g, picture{g, times(g.Spans, free), image.Fresh(g)})
		_, h, _ := open.Heap(image.Fresh(g))
		if h.Room(1) != 0 || len(h.Free()) != 0 || h.Empty() != -1 {
			t.Fatal(g, h.Room(1), h.Free())
		}
	}
}

func TestP20_1HeapScene(t *testing.T) {
	p := sound()
	_, h, code := open.Heap(p.words)
	if code != api.OK || len(h.List(0)) != 31 || len(h.List(1)) != 14 || len(h.List(2)) != 0 || len(h.List(3)) != 3 || h.Room(1) != 1 || h.Room(2) != 6 || h.Empty() != -1 {
		t.Fatal(code, h.Free())
	}
	l := h.List(3)
	if want := []int{p.at(5, 0), p.at(5, 2), p.at(5, 3)}; !slices.Equal(l, want) {
		t.Error(l)
	}
	// Of an image that isn't mended the heap is that of its heads and maps as they stand.
	_, h, code = open.Heap(scene().words)
	if code != api.OK || len(h.List(0)) != 30 || len(h.List(1)) != 13 || len(h.List(2)) != 7 || len(h.List(3)) != 2 || h.Room(1) != 1 || h.Room(2) != -1 {
		t.Fatal(code, h.Free())
	}
}

// Crowded pictures as they stand, and mended; also of spans that aren't whole, and of heads that don't fit one behind the other.
func TestP20_1HeapCrowds(t *testing.T) {
	for i, heads := range layouts() {
		for k := range 10 {
			for _, p := range []picture{crowded(i*100+k, heads), spoiled(k, crowded(i*100+k, heads)), wronged(k, crowded(i*100+k, heads))} {
				hasHeap(t, heads, p)
				words, code := mend.Mended(p.words)
				if code != api.OK {
					continue
				}
				left := picture{p.g, slices.Clone(heads), words}
				for span := range heads {
					if words[headAt(p.g, span)] == 0 {
						left.heads[span] = free
					}
				}
				hasHeap(t, heads, left)
			}
		}
	}
	for _, h := range every() {
		for span := range 3 {
			heads := times(3, small(2))
			heads[span] = h
			p := drawn(2, 1, heads)
			p.words[mapAt(p.g, span)], p.words[mapAt(p.g, 2)] = 5, full
			hasHeap(t, heads, p)
		}
	}
}

// Maps: each bit, alone and missing alone; of blocks that a span doesn't have bits don't matter.
func TestP20_1HeapMaps(t *testing.T) {
	for class := range 4 {
		for bit := range 64 {
			p := drawn(1, 1, of(small(class), free))
			for _, set := range []uint64{1 << bit, full ^ 1<<bit} {
				p.words[mapAt(p.g, 0)], p.words[mapAt(p.g, 1)] = set, set
				hasHeap(t, []int{class, bit}, p)
			}
		}
	}
}

// Nothing is replayed for a heap, nor looked at what can be reached: logs, lanes that don't count, and pointers that aren't right don't matter.
func TestP20_1HeapAsItStands(t *testing.T) {
	p := scene()
	written(p.words, 0, api.Entry{At: headAt(p.g, 0), X: 9}, api.Entry{At: mapAt(p.g, 4), X: full})
	hasHeap(t, "a log", p)
	written(p.words, 1, api.Entry{At: 0, X: 9})
	hasHeap(t, "a log that writes where none may", p)
	p.words[laneAt(0)], p.words[rootAt(0)], p.words[p.at(0, 0)] = full, 1, full
	hasHeap(t, "wrong pointers", p)
	if code := opens(t, "it can't be opened", p.words); code != api.ErrCorrupt {
		t.Fatal(code)
	}
}

// What is done to the heap doesn't turn the words, nor another heap of them; what is done to the words doesn't turn the heap.
func TestP20_1HeapMemory(t *testing.T) {
	for _, p := range []picture{sound(), scene(), crowded(3, layouts()[0])} {
		was := slices.Clone(p.words)
		roomy := append(make([]uint64, 0, len(p.words)+64), p.words...)
		spare := roomy[:cap(roomy)][len(roomy):]
		for i := range spare {
			spare[i] = uint64(i)
		}
		_, h, _ := open.Heap(roomy)
		_, other, _ := open.Heap(roomy)
		for class := range 4 {
			h.Refill(0, class)
			h.Take(0, class)
			h.Give(0, class, 8)
		}
		for span := range p.g.Spans {
			h.Carve(span, 0)
			h.Loose(span)
			h.Large(span, 1)
			h.Release(span)
		}
		if differ(roomy, was) >= 0 {
			t.Fatal("the words turned")
		}
		for i, x := range spare {
			if x != uint64(i) {
				t.Fatal("the words' spare room turned")
			}
		}
		isHeapOf(t, "another heap", other, p)
		_, h, _ = open.Heap(roomy)
		for a := range roomy {
			roomy[a] = full
		}
		isHeapOf(t, "words that turn", h, p)
	}
}

// Superblocks that don't fit: each bit of its words turned; each word another one, with a seal that fits; another geometry's; of no words, too few and too many.
func TestP20_1HeapNoSuperblock(t *testing.T) {
	for _, p := range []picture{drawn(1, 1, of(free)), sound(), drawn(4, 8, times(16, small(0)))} {
		for _, words := range noSuperblocks(p) {
			hasNoHeap(t, len(words), words)
		}
	}
}

// A word that is no head's, at each span.
func TestP20_1HeapNoHead(t *testing.T) {
	for _, p := range []picture{drawn(1, 1, of(free)), sound(), drawn(4, 8, times(16, small(0)))} {
		for span := range p.g.Spans {
			for _, x := range noHeadWords() {
				hasNoHeap(t, []any{span, x}, with(p.words, api.Entry{At: headAt(p.g, span), X: x}))
			}
		}
	}
}

// Arbitrary words.
func TestP20_1HeapAnyWords(t *testing.T) {
	for _, words := range anyWords() {
		hasNoHeap(t, len(words), words)
	}
}

// The heap of what was opened has each block of a small span that isn't reached.
func TestP20_1HeapOpened(t *testing.T) {
	for i, heads := range layouts() {
		p := crowded(i+77, heads)
		r := regionOf(t, p.words)
		_, h, code := open.Heap(r.Seen())
		if code != api.OK {
			t.Fatal(heads, code)
		}
		got := len(h.Free())
		for span := range p.g.Spans {
			if x := r.Seen()[headAt(p.g, span)]; x%4 == 1 {
				for bit := range 64 / p.size(span) {
					got -= int(1 - r.Seen()[mapAt(p.g, span)]>>bit&1)
				}
			}
		}
		if got != 0 {
			t.Fatalf("%v: %d too many", heads, got)
		}
	}
}
