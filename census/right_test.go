package census_test

import (
	"math"
	"slices"
	"testing"

	"trencher/api"
	"trencher/census"
	"trencher/heap"
	"trencher/pool"
)

// strange are addresses at which no block can begin: in other areas, below 0, and behind the region's end.
func strange(g api.Geometry) []int {
	return []int{0, 1, 8, laneAt(0), headAt(g, 0), spanAt(g, 0) - 1, spanAt(g, 0) - 64, spanAt(g, 0) + 1, spanAt(g, g.Spans) - 1, total(g), total(g) + 1, total(g) + 64, 16384, -1, -8, -64, -spanAt(g, 0), 1 << 32, 1<<32 + spanAt(g, 0), -1<<32 + spanAt(g, 0), math.MaxInt, math.MinInt}
}

// crowd is a scene with objects that are reached, garbage, and free blocks, each of each class, a large one of several spans, and a free span.
func crowd(t *testing.T) *scene {
	s := fresh(t, api.Geometry{Spans: 8, Lanes: 2, Roots: 5})
	s.head(0, small(0), small(1), small(2), small(3))
	s.head(4, whole(3)...)
	for class := range 4 {
		s.reach(class, class, class)
		s.take(class, (class+1)%4)
	}
	s.reach(4, 4, 0)
	return s
}

// As it is: nothing lost, nothing twice, all that is free is a block, the same heads.
func TestP23_2Right(t *testing.T) {
	s := crowd(t)
	s.counts("crowd", s.heap(), true, 5, 4, 60-8)
}

// One block that is lost, each one of those that were free.
func TestP23_2Lost(t *testing.T) {
	s := crowd(t)
	free := s.heap().Free()
	for i := range free {
		s.counts(i, s.bare(slices.Delete(slices.Clone(free), i, i+1)...), false, 5, 4, 51, 1)
	}
	for _, h := range []*heap.Heap{s.bare(), s.bare(free[:1]...)} {
		if census.Right(s.words, h) {
			t.Fatal("all lost")
		}
	}
	s.counts("all", s.bare(), false, 5, 4, 0, 52)
}

// One block that is there twice, each of those that were free, garbage, or an object's.
func TestP23_2Twice(t *testing.T) {
	s := crowd(t)
	was := s.agrees("crowd", s.heap())
	for i, at := range was.begins {
		want := was.count
		want[was.states[i]]--
		want[4] = 1
		for times := 1; times < 4; times++ {
			s.counts(at, s.bare(append(s.heap().Free(), slices.Repeat([]int{at}, times)...)...), false, want[:]...)
		}
	}
}

// A number in Free that is no block's: between two blocks, below 0, behind the region's end, in other areas, in a span that is free, in a large one's.
func TestP23_2NoBlock(t *testing.T) {
	s := crowd(t)
	var begins []int
	for _, b := range blocksOf(s.g, s.words) {
		begins = append(begins, b.at)
	}
	addresses := strange(s.g)
	for at := spanAt(s.g, 0) - 70; at < total(s.g)+70; at++ {
		addresses = append(addresses, at)
	}
	for _, at := range addresses {
		if slices.Contains(begins, at) {
			continue
		}
		h := s.bare(append(s.heap().Free(), at)...)
		s.counts(at, h, false, 5, 4, 52)
		// Once it is gone all is right again.
		for lane := range 2 {
			for class := range 4 {
				if l := h.Cache(lane, class); len(l) > 0 && l[len(l)-1] == at {
					h.Take(lane, class)
				}
			}
		}
		s.counts(at, h, true, 5, 4, 52)
	}
}

// So where there is no block at all.
func TestP23_2NoBlocks(t *testing.T) {
	for _, g := range few() {
		s := fresh(t, g)
		for _, at := range append(strange(g), spanAt(g, 0), spanAt(g, g.Spans-1)) {
			s.counts(at, s.bare(at), false)
		}
	}
}

// The heap's heads differ from the image's in one span, each one, by each head that may be.
func TestP23_2Heads(t *testing.T) {
	s := crowd(t)
	heads := headsOf(s.g, s.words)
	free := s.heap().Free()
	seen := 0
	for span, was := range heads {
		for _, other := range everyHead() {
			turned := slices.Clone(heads)
			turned[span] = other
			h := heap.New(s.g, turned, slices.Repeat([]uint64{math.MaxUint64}, s.g.Spans))
			for _, at := range free {
				h.Give(1, 2, at)
			}
			s.counts(other, h, other == was, 5, 4, 52)
			if other == was {
				seen++
			}
			// As its image tells such a heap, with other blocks.
			s.agrees(other, s.heapOf(turned...))
		}
	}
	if seen != 8 {
		t.Fatal(seen)
	}
}

// Heads that are the same, though they don't fit one behind the other, are right where no block is wrong.
func TestP23_2LooseHeads(t *testing.T) {
	s := fresh(t, middle)
	s.head(0, more(3), large(4), more(2), small(3), large(2), large(3))
	s.take(3, 1)
	s.counts("loose", s.heap(), true, 0, 1, 3)
}

// A heap of another geometry: with fewer, and with more spans; with as many, and other lanes, so that its blocks are elsewhere.
func TestP23_2OtherHeap(t *testing.T) {
	for _, spans := range []int{1, 2, 3, 4, 5, 16} {
		for lanes := 1; lanes <= 4; lanes++ {
			for class := range 4 {
				s := fresh(t, api.Geometry{Spans: 3, Lanes: 2, Roots: 1})
				s.head(0, small(class), small(class), small(class))
				o := fresh(t, api.Geometry{Spans: spans, Lanes: lanes, Roots: 1 + spans%8})
				for span := range spans {
					o.head(span, small(class))
				}
				k := s.agrees(spans, o.heap())
				if k.right != (spans == 3 && lanes == 2) || (spans == 3 && lanes != 2) && k.count[3] == 0 {
					t.Fatalf("%d spans, %d lanes: %v", spans, lanes, k)
				}
				// Where nothing is carved the heads alone differ.
				s, o = fresh(t, s.g), fresh(t, o.g)
				s.counts(spans, o.heap(), spans == 3)
			}
		}
	}
}

// Of counts what programs see of a pool beside its heap, also where these aren't right.
func TestP23_2Of(t *testing.T) {
	for seed, g := range few() {
		tr := formatted(t, g)
		tr.script(chance(seed+11), 60)
		p := tr.pool
		h := p.Heap()
		of := func(what any) {
			t.Helper()
			k := agrees(t, what, g, p.Region().Seen(), h)
			if got := census.Of(p); got != k.count || p.Heap() != h {
				t.Fatalf("%v: %v, not %v", what, got, k.count)
			}
		}
		of("as it is")
		for _, at := range append(h.Free(), strange(g)...) {
			h.Give(at&1*(g.Lanes-1), at>>1&3, at)
			of("given")
		}
		for class := range 4 {
			h.Take(g.Lanes-1, class)
			of("taken")
			h.Refill(0, class)
			h.Carve(h.Room(1), class)
			of("carved")
		}
		// What programs see counts, not what is kept.
		for span := range g.Spans {
			p.Region().Store(headAt(g, span)+1, math.MaxUint64)
			of("all bits")
		}
		if c := census.Of(p); c[2] != 0 {
			t.Fatal(c)
		}
		for _, at := range []int{rootAt(0), 0} {
			was, _ := p.Region().Load(at)
			p.Region().Store(at, 3)
			if c := census.Of(p); c != (api.Census{}) {
				t.Fatal(c)
			}
			p.Region().Store(at, was)
			of("as it was")
		}
	}
}

// Of nil, and of a pool that no call gave: zero.
func TestP23_2OfNil(t *testing.T) {
	for what, p := range map[string]*pool.Pool{"nil": nil, "zero": {}} {
		if c := census.Of(p); c != (api.Census{}) {
			t.Errorf("%s: %v", what, c)
		}
		without(t, what, p.Region().Seen(), p.Heap())
	}
}

// A pool whose region couldn't be opened behind power that failed has what can be marked no more.
func TestP23_2OfCorrupt(t *testing.T) {
	tr := formatted(t, middle)
	at := tr.makes(root(0), 7, 2)
	p := tr.pool
	p.Region().Store(at+1, 5)
	if code := p.Fail(func(many int) int { return many - 1 }); code != api.ErrCorrupt {
		t.Fatal(code)
	}
	if c := census.Of(p); c != (api.Census{}) {
		t.Fatal(c)
	}
	without(t, "corrupt", p.Region().Seen(), p.Heap())
	corrupt(t, "corrupt", p.Region().Seen())
}
