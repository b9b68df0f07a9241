package census_test

import (
	"slices"
	"testing"

	"trencher/api"
	"trencher/head"
	"trencher/heap"
	"trencher/image"
)

// A scene is an image that is made by hand.
type scene struct {
	t     *testing.T
	g     api.Geometry
	words []uint64
}

// fresh is a scene of a fresh image.
func fresh(t *testing.T, g api.Geometry) *scene {
	t.Helper()
	return &scene{t, g, image.Fresh(g)}
}

// copied is a scene that is the same, and shares nothing with it.
func (s *scene) copied() *scene {
	return &scene{s.t, s.g, slices.Clone(s.words)}
}

// head writes heads, from a span on.
func (s *scene) head(span int, heads ...api.Head) {
	s.t.Helper()
	for i, h := range heads {
		x, ok := head.Word(h)
		if !ok {
			s.t.Fatalf("%+v may not be", h)
		}
		s.words[headAt(s.g, span+i)] = x
	}
}

// Heads of each kind.
func small(class int) api.Head { return api.Head{Kind: 1, Class: class} }
func large(many int) api.Head  { return api.Head{Kind: 2, Class: 4, Many: many} }
func more(many int) api.Head   { return api.Head{Kind: 3, Class: 4, Many: many} }

// whole are the heads of a large block.
func whole(many int) []api.Head {
	return []api.Head{large(many), more(1), more(2), more(3)}[:many]
}

// everyHead are all that may be.
func everyHead() []api.Head {
	return []api.Head{{}, small(0), small(1), small(2), small(3), large(1), large(2), large(3), large(4), more(1), more(2), more(3)}
}

// at is where a block begins.
func (s *scene) at(span, index int) int {
	h := headsOf(s.g, s.words)[span]
	return spanAt(s.g, span) + index*[]int{2, 4, 8, 16, 64}[h.Class]
}

// take sets a block's bit.
func (s *scene) take(span, index int) {
	s.words[headAt(s.g, span)+1] |= 1 << index
}

// object lets an object be in a block, with its bit: its address. What its slots are stays as it is.
func (s *scene) object(span, index, words, slots int) int {
	s.take(span, index)
	at := s.at(span, index)
	s.words[at] = uint64(words)<<24 | uint64(slots)<<16 | 1
	return at
}

// fits is how many words an object has, at least and at most, in a block of a whole span.
func (s *scene) fits(span int) (least, most int) {
	h := headsOf(s.g, s.words)[span]
	if h.Kind == 2 {
		return max(16, 64*h.Many-64), 64*h.Many - 1
	}
	return max(1, size(h.Class)/2), size(h.Class) - 1
}

// reach lets a root point to an object in a block, as great as there may be.
func (s *scene) reach(root, span, index int) {
	_, words := s.fits(span)
	s.words[rootAt(root)] = uint64(s.object(span, index, words, 0))
}

// heap is a heap as the image tells it.
func (s *scene) heap() *heap.Heap {
	return s.heapOf(headsOf(s.g, s.words)...)
}

// heapOf is a heap with other heads, and the image's maps.
func (s *scene) heapOf(heads ...api.Head) *heap.Heap {
	s.t.Helper()
	h := heap.New(s.g, heads, image.Maps(s.g, s.words))
	if h == nil {
		s.t.Fatalf("%v: no heap", heads)
	}
	return h
}

// bare is a heap of the image in which nothing is free but what is given, in caches of all lanes and classes.
func (s *scene) bare(given ...int) *heap.Heap {
	s.t.Helper()
	h := heap.New(s.g, headsOf(s.g, s.words), slices.Repeat([]uint64{1<<64 - 1}, s.g.Spans))
	if h == nil {
		s.t.Fatal("no heap")
	}
	for i, at := range given {
		h.Give(i%s.g.Lanes, (i+at&3)%4, at)
	}
	return h
}

// agrees checks that all calls tell what they should of the scene and a heap.
func (s *scene) agrees(what any, h *heap.Heap) known {
	s.t.Helper()
	return agrees(s.t, what, s.g, s.words, h)
}

// counts checks what is counted, beside the rest, as it is written out.
func (s *scene) counts(what any, h *heap.Heap, right bool, counts ...int) {
	s.t.Helper()
	k := s.agrees(what, h)
	if got := append(counts, 0, 0, 0, 0, 0)[:5]; api.Census(got) != k.count || k.right != right {
		s.t.Fatalf("%v: %v, right %v; not %v, %v", what, k.count, k.right, got, right)
	}
}
