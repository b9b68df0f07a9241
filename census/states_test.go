package census_test

import (
	"math"
	"slices"
	"testing"

	"trencher/api"
	"trencher/census"
	"trencher/entry"
	"trencher/heap"
	"trencher/image"
	"trencher/mark"
)

// A region of no whole span has no blocks, and that is right: of each geometry.
func TestP23_1Fresh(t *testing.T) {
	for _, g := range everyGeometry() {
		s := fresh(t, g)
		s.counts(g, s.heap(), true)
		if use := census.Use(s.words); !slices.Equal(use, make([]int, g.Spans)) {
			t.Fatalf("%v: use %v", g, use)
		}
	}
}

// The chapter's example: with one object of 3 words in a span 1 is live, 15 are free.
func TestP23_1Example(t *testing.T) {
	s := fresh(t, least)
	s.head(0, small(1))
	s.words[rootAt(0)] = uint64(s.object(0, 3, 3, 1))
	s.counts("example", s.heap(), true, 1, 0, 15)
	begins, states, ok := census.States(s.words, s.heap())
	if !ok || !slices.Equal(begins, []int{64, 68, 72, 76, 80, 84, 88, 92, 96, 100, 104, 108, 112, 116, 120, 124}) || !slices.Equal(states, []int{2, 2, 2, 0, 2, 2, 2, 2, 2, 2, 2, 2, 2, 2, 2, 2}) {
		t.Fatal(begins, states, ok)
	}
}

// The four blocks of a span, each one not free, free, and free twice, its bit 0, 1, and 1 with an object that is reached.
func TestP23_1EachFour(t *testing.T) {
	g := api.Geometry{Spans: 1, Lanes: 2, Roots: 4}
	for n := range 9 * 9 * 9 * 9 {
		s := fresh(t, g)
		s.head(0, small(3))
		var given []int
		var want []int
		for i := range 4 {
			of := n / []int{1, 9, 81, 729}[i] % 9
			switch of % 3 {
			case 1:
				s.take(0, i)
			case 2:
				s.reach(i, 0, i)
			}
			given = append(given, slices.Repeat([]int{s.at(0, i)}, of/3)...)
			want = append(want, []int{3, 1, 0, 2, 4, 4, 4, 4, 4}[of])
		}
		begins, states, ok := census.States(s.words, s.bare(given...))
		if !ok || !slices.Equal(states, want) || !slices.Equal(begins, []int{104, 120, 136, 152}) {
			t.Fatalf("%d: %v are %v, %v", n, begins, states, ok)
		}
		s.agrees(n, s.bare(given...))
	}
}

// each calls a function with each way that a block of a scene may be: how often it is free, and what its bit and its object are.
func each(s *scene, span, index int, do func(s *scene, times int, state int)) {
	for times := range 4 {
		for taken := range 3 {
			s := s.copied()
			switch taken {
			case 1:
				s.take(span, index)
			case 2:
				s.reach(0, span, index)
			}
			do(s, times, is[min(times, 2)][taken])
		}
	}
}

// Each block of a span of each class, in each way that it may be, beside others that are free.
func TestP23_1EachBlock(t *testing.T) {
	for class := range 4 {
		s := fresh(t, api.Geometry{Spans: 3, Lanes: 1, Roots: 1})
		s.head(1, small(class))
		for index := range 64 / size(class) {
			each(s, 1, index, func(s *scene, times, state int) {
				var given []int
				for i := range 64 / size(class) {
					if i != index {
						given = append(given, s.at(1, i))
					}
				}
				given = append(given, slices.Repeat([]int{s.at(1, index)}, times)...)
				want := [5]int{2: len(given) - times}
				want[state]++
				s.counts(index, s.bare(given...), state < 3, want[:]...)
			})
		}
	}
}

// A block of each number of spans, at each span, in each way that it may be.
func TestP23_1Large(t *testing.T) {
	for many := 1; many <= 4; many++ {
		for span := range 7 - many {
			s := fresh(t, middle)
			s.head(span, whole(many)...)
			each(s, span, 0, func(s *scene, times, state int) {
				h := s.bare(slices.Repeat([]int{s.at(span, 0)}, times)...)
				want := [5]int{}
				want[state]++
				s.counts(many, h, state < 3, want[:]...)
				begins, _, _ := census.States(s.words, h)
				if !slices.Equal(begins, []int{spanAt(middle, span)}) {
					t.Fatal(begins)
				}
			})
		}
	}
}

// An object of several spans, reached and garbage, between spans of small blocks and free ones.
func TestP23_1Several(t *testing.T) {
	s := fresh(t, middle)
	s.head(0, small(3))
	s.head(1, whole(3)...)
	s.head(5, small(3))
	s.reach(0, 1, 0)
	s.take(5, 1)
	s.counts("reached", s.heap(), true, 1, 1, 7)
	s.words[rootAt(0)] = 0
	s.counts("garbage", s.heap(), true, 0, 2, 7)
	s.words[headAt(middle, 1)+1] = 0
	s.counts("lost", s.heap(), false, 0, 1, 7, 1)
}

// Every list of up to three heads, right ones behind one another and others, with maps of any bits: blocks are those of whole spans.
func TestP23_1EveryHeads(t *testing.T) {
	next := chance(3)
	all := everyHead()
	for spans := 1; spans <= 3; spans++ {
		g := api.Geometry{Spans: spans, Lanes: 1, Roots: 1}
		for n := range []int{0, 12, 144, 1728}[spans] {
			s := fresh(t, g)
			for span := range spans {
				s.head(span, all[n%12])
				n /= 12
				s.words[headAt(g, span)+1] = uint64(next(1<<62))<<2 | uint64(next(4))
			}
			s.agrees(n, s.heap())
		}
	}
}

// A large block that is not whole, for each of its spans in turn, is none; what small spans are there instead has blocks.
func TestP23_1Broken(t *testing.T) {
	for many := 1; many <= 4; many++ {
		for at := range many {
			for _, other := range everyHead() {
				s := fresh(t, middle)
				s.head(1, whole(many)...)
				s.head(1+at, other)
				s.take(1, 0)
				s.agrees(other, s.heap())
			}
		}
		// At the region's end, where there isn't room for all of its spans.
		for span := 7 - many; span < 6; span++ {
			s := fresh(t, middle)
			s.head(span, whole(many)[:6-span]...)
			s.counts(many, s.heap(), true)
		}
	}
}

// Bits of a map that are of no block make no difference: those behind a span's last one, those of a large one's other spans, those of spans that are free.
func TestP23_1OtherBits(t *testing.T) {
	for class := range 5 {
		s := fresh(t, middle)
		blocks := 1
		if class < 4 {
			blocks = 64 / size(class)
			s.head(0, small(class), small(class))
		} else {
			s.head(0, whole(4)...)
		}
		s.reach(0, 0, 0)
		h := s.heap()
		was := s.agrees("few bits", h)
		for span := range middle.Spans {
			from := 0
			if class < 4 && span < 2 || span == 0 {
				from = blocks
			}
			for bit := from; bit < 64; bit++ {
				s.words[headAt(middle, span)+1] |= 1 << bit
			}
		}
		if k := s.agrees("more bits", h); !slices.Equal(k.states, was.states) || k.count[0] != 1 || !k.right {
			t.Fatalf("%d: %v was %v", class, k, was)
		}
	}
}

// Which list, or cache, a block is in makes no difference, nor in which order it came.
func TestP23_1EachList(t *testing.T) {
	g := api.Geometry{Spans: 2, Lanes: 4, Roots: 1}
	s := fresh(t, g)
	s.head(0, small(3), small(0))
	s.reach(0, 0, 2)
	for at := range 4 {
		s.take(1, 7*at)
	}
	whole := s.heap()
	was := s.agrees("in lists", whole)
	if was.count != [5]int{1, 4, 31} || !was.right {
		t.Fatal(was)
	}
	for lane := range 4 {
		for class := range 4 {
			h := s.bare()
			free := whole.Free()
			for _, at := range slices.Backward(free) {
				h.Give(lane, class, at)
			}
			if k := s.agrees(lane, h); !k.right || !slices.Equal(k.states, was.states) {
				t.Fatalf("%d, %d: %v", lane, class, k)
			}
			for h.Drain(lane, class) > 0 {
			}
			if k := s.agrees(lane, h); !k.right || len(h.List(class)) == 0 {
				t.Fatalf("%d, %d: %v", lane, class, k)
			}
			// Twice: in one list, and in another one.
			h.Give((lane+1)%4, (class+2)%4, free[5])
			if k := s.agrees(lane, h); k.right || k.count != [5]int{1, 4, 30, 0, 1} {
				t.Fatalf("%d, %d: %v", lane, class, k)
			}
		}
	}
}

// As many blocks as there may be, 512 of them, in each way that they may be: all the same, and mixed.
func TestP23_1Most(t *testing.T) {
	for turn := range 10 {
		s := fresh(t, most)
		s.head(0, slices.Repeat([]api.Head{small(0)}, 16)...)
		var given []int
		var want api.Census
		last := rootAt(7)
		for i := range 512 {
			of := turn
			if turn == 9 {
				of = i % 9
			}
			at := s.at(i/32, i%32)
			switch of % 3 {
			case 1:
				s.take(i/32, i%32)
			case 2:
				s.words[last] = uint64(s.object(i/32, i%32, 1, 1))
				last = at + 1
			}
			given = append(given, slices.Repeat([]int{at}, of/3)...)
			want[is[of/3][of%3]]++
		}
		h := s.bare(given...)
		s.counts(turn, h, want[3]+want[4] == 0, want[:]...)
		if begins, states, _ := census.States(s.words, h); len(begins) != 512 || len(states) != 512 {
			t.Fatal(len(begins), len(states))
		}
	}
}

// What is reached by slots alone, however far from the roots, is live; what leads there from garbage alone isn't.
func TestP23_1Slots(t *testing.T) {
	s := fresh(t, middle)
	s.head(0, small(3), small(0), large(1), small(2))
	a, b := s.object(0, 1, 15, 9), s.object(3, 7, 7, 7)
	c, d := s.object(2, 0, 20, 1), s.object(1, 31, 1, 1)
	s.words[rootAt(3)] = uint64(a)
	s.words[a+9] = uint64(b)
	s.words[b+7] = uint64(c)
	s.words[c+1] = uint64(d)
	s.words[d+1] = uint64(a)
	s.counts("reached", s.heap(), true, 4, 0, 3+7+31)
	s.words[b+7] = 0
	s.counts("a part", s.heap(), true, 2, 2, 3+7+31)
	s.words[rootAt(3)] = 0
	s.counts("nothing", s.heap(), true, 0, 4, 3+7+31)
}

// Refs that first words tell make no difference.
func TestP23_1Refs(t *testing.T) {
	for _, refs := range []uint64{0, 1, 2, 65535} {
		s := fresh(t, least)
		s.head(0, small(1))
		s.reach(0, 0, 5)
		s.object(0, 6, 2, 0)
		for _, at := range []int{84, 88} {
			s.words[at] = s.words[at]/65536*65536 + refs
		}
		s.counts(refs, s.heap(), true, 1, 1, 14)
	}
}

// An image is told as it stands: no lane is replayed, whether its log counts or not.
func TestP23_1AsItStands(t *testing.T) {
	s := fresh(t, middle)
	s.head(0, small(3), small(1))
	s.reach(1, 0, 2)
	was := s.agrees("as it stands", s.heap())
	log := []api.Entry{{At: rootAt(1)}, {At: headAt(middle, 1)}, {At: headAt(middle, 0) + 1, X: 15}, {At: rootAt(0), X: 65}}
	for lane := range middle.Lanes {
		for _, seal := range []uint64{entry.Seal(log), 77} {
			s := s.copied()
			copy(s.words[laneAt(lane)+8:], entry.Words(log))
			s.words[laneAt(lane)] = seal
			if k := s.agrees(lane, s.heap()); k.count != was.count || !k.right || was.count != [5]int{1, 0, 19} {
				t.Fatalf("lane %d: %v, not %v", lane, k, was)
			}
		}
	}
}

// Without a heap there are no states, whatever the image is.
func TestP23_1NoHeap(t *testing.T) {
	for _, g := range few() {
		s := fresh(t, g)
		without(t, g, s.words, nil)
		s.head(0, small(3))
		s.reach(0, 0, 0)
		without(t, g, s.words, nil)
		if use := census.Use(s.words); use[0] != 16 {
			t.Fatal(use)
		}
		// One that no call gave, with nothing in it, is a heap.
		if k := s.agrees(g, &heap.Heap{}); k.count != [5]int{1, 0, 0, 3} || k.right {
			t.Fatal(k)
		}
	}
}

// Words that are no image's: none, fewer or more than the superblock tells, of another superblock, arbitrary ones.
func TestP23_1NoImage(t *testing.T) {
	next := chance(5)
	for _, g := range few() {
		s := fresh(t, g)
		s.head(0, small(3))
		s.reach(0, 0, 1)
		h := s.heap()
		for n := range s.words {
			corrupt(t, n, s.words[:n], h)
		}
		for _, many := range []int{1, 7, 8, 64, 72, 16384} {
			corrupt(t, many, append(slices.Clone(s.words), make([]uint64, many)...), h)
		}
		for at := range 8 {
			for range 40 {
				other := slices.Clone(s.words)
				other[at] ^= 1 << next(64)
				corrupt(t, at, other, h)
			}
		}
		for range 20 {
			other := slices.Clone(s.words)
			for i := range other {
				other[i] = uint64(next(1<<62)) << next(63)
			}
			corrupt(t, "arbitrary", other, h)
			copy(other, s.words[:8])
			corrupt(t, "arbitrary behind a superblock", other, h)
		}
		corrupt(t, "zeros", make([]uint64, len(s.words)), h)
		// The superblock of another geometry, with just as many words; and with as many as there are, of another count.
		copy(s.words, image.Fresh(api.Geometry{Spans: g.Spans, Lanes: g.Lanes, Roots: g.Roots%8 + 1})[:7])
		corrupt(t, "another superblock", s.words, h)
	}
	corrupt(t, "nil", nil, fresh(t, least).heap())
	corrupt(t, "none", []uint64{}, fresh(t, least).heap())
	for n := range 300 {
		words := make([]uint64, n)
		for i := range words {
			words[i] = uint64(next(1<<62)) << next(63)
		}
		corrupt(t, n, words, fresh(t, middle).heap())
	}
	corrupt(t, "as many as there may be", make([]uint64, 16384), fresh(t, most).heap())
	corrupt(t, "too many", make([]uint64, 1<<18), fresh(t, most).heap())
}

// chained is a scene in which a root leads to an object, that to a large one, and that to another one.
func chained(t *testing.T) (s *scene, a, b, c int) {
	s = fresh(t, middle)
	s.head(0, small(2))
	s.head(2, whole(3)...)
	a, b, c = s.object(0, 1, 4, 2), s.object(2, 0, 130, 3), s.object(0, 6, 5, 1)
	s.words[rootAt(1)], s.words[a+2], s.words[b+3] = uint64(a), uint64(b), uint64(c)
	return s, a, b, c
}

// Images whose superblock fits, and which can't be marked: by a root, by a slot of what is reached, by an object's first word, by a bit that is 0, by heads.
func TestP23_1NoMarks(t *testing.T) {
	s, a, b, c := chained(t)
	h := s.heap()
	s.counts("it can", h, true, 3, 0, 6)
	turned := func(what any, at int, x uint64) {
		t.Helper()
		words := slices.Clone(s.words)
		words[at] = x
		corrupt(t, what, words, h, &heap.Heap{})
	}
	for _, x := range []uint64{1, 7, 8, uint64(a + 1), uint64(b + 64), uint64(b + 4), uint64(spanAt(middle, 1)), uint64(total(middle)), 16384, 1 << 31, 1 << 32, 1<<32 + uint64(a), 1<<63 + uint64(a), math.MaxUint64, math.MaxInt64} {
		for _, at := range []int{rootAt(0), rootAt(1), rootAt(3), a + 1, a + 2, b + 1, b + 3, c + 1} {
			turned(x, at, x)
		}
	}
	for _, at := range []int{a, b, c} {
		for _, x := range []uint64{0, 1, 1<<24 + 2<<16, 16 << 24, 8 << 24, 255 << 24, 1 << 32, math.MaxUint64} {
			turned(x, at, x)
		}
		span := (at - spanAt(middle, 0)) / 64
		turned("a span that isn't there", headAt(middle, span), 0)
		turned("no bits", headAt(middle, span)+1, 0)
	}
	// Reached, and just its own bit is 0.
	turned("bit of the first", headAt(middle, 0)+1, 1<<6)
	turned("bit of the last", headAt(middle, 0)+1, 1<<1)
	turned("other bits of a large one", headAt(middle, 2)+1, math.MaxUint64-1)
	for span := range middle.Spans {
		turned("no head's word", headAt(middle, span), 77)
		turned("no head's word", headAt(middle, span), s.words[headAt(middle, span)]^1<<63)
	}
	turned("not whole", headAt(middle, 3), 0)
	turned("not whole", headAt(middle, 4), 0)
}

// objectsIn lets objects be in some of a scene's blocks, by chance, and lets roots and slots point to some of these; other bits are set by chance.
func (s *scene) objectsIn(next func(below int) int) {
	var objects []int
	slots := map[int]int{}
	for _, b := range blocksOf(s.g, s.words) {
		switch next(5) {
		case 0:
			s.take(b.span, b.index)
		case 1, 2:
			least, most := s.fits(b.span)
			words := least + next(most-least+1)
			many := min(words, next(4))
			at := s.object(b.span, b.index, words, many)
			objects, slots[at] = append(objects, at), many
		}
	}
	some := func() uint64 {
		if len(objects) == 0 || next(3) == 0 {
			return 0
		}
		return uint64(objects[next(len(objects))])
	}
	for i := range s.g.Roots {
		s.words[rootAt(i)] = some()
	}
	for _, at := range objects {
		for i := range slots[at] {
			s.words[at+1+i] = some()
		}
	}
}

// given are addresses that a heap is given, by chance: mostly those of blocks, some of them several times, and a few others.
func (s *scene) given(next func(below int) int, odd int) []int {
	var l []int
	for _, b := range blocksOf(s.g, s.words) {
		taken := s.words[headAt(s.g, b.span)+1]>>b.index&1 == 1
		if next(odd) == 0 {
			l = append(l, slices.Repeat([]int{b.at}, next(4))...)
		} else if !taken {
			l = append(l, b.at)
		}
	}
	for range next(60 / odd) {
		l = append(l, strange(s.g)[next(len(strange(s.g)))])
	}
	return l
}

// Scenes of any heads, bits, objects and pointers, beside heaps in which anything may be free.
func TestP23_1Chance(t *testing.T) {
	right, seen := 0, [5]int{}
	for seed := range 2500 {
		next := chance(seed + 40)
		s := fresh(t, few()[seed%6])
		for span := 0; span < s.g.Spans; span++ {
			many := 1 + next(4)
			switch of := next(9); {
			case of < 5:
				s.head(span, small(next(4)))
			case of < 6 && span+many <= s.g.Spans:
				s.head(span, whole(many)...)
				span += many - 1
			case of < 7:
				s.head(span, everyHead()[next(12)])
			}
		}
		s.objectsIn(next)
		if _, code := mark.Reach(s.g, s.words); code != api.OK {
			t.Fatal(seed, "it can't be marked")
		}
		s.agrees(seed, s.heap())
		k := s.agrees(seed, s.bare(s.given(next, []int{2, 5, 20, 60}[next(4)])...))
		if k.right {
			right++
		}
		for state, n := range k.count {
			seen[state] += min(n, 1)
		}
	}
	if right < 100 || slices.Min(seen[:]) < 300 {
		t.Fatal(right, seen)
	}
}
