package census_test

import (
	"slices"
	"testing"

	"trencher/api"
	"trencher/census"
)

// uses checks what is told of an image, as it is written out.
func (s *scene) uses(what any, want ...int) {
	s.t.Helper()
	if got := census.Use(s.words); !slices.Equal(got, want) {
		s.t.Fatalf("%v: use %v, not %v", what, got, want)
	}
	s.agrees(what, s.heap())
}

// An object of each size, alone, at each span: its words and its block's first one, of a large one's spans each but the last full.
func TestP23_3Sizes(t *testing.T) {
	for words := 1; words <= 255; words++ {
		spans, class := 1, 0
		for class < 4 && words >= size(class) {
			class++
		}
		if class == 4 {
			spans = words/64 + 1
		}
		for span := range 6 - spans + 1 {
			s := fresh(t, middle)
			index := 0
			if class < 4 {
				s.head(span, small(class))
				index = words * 7 % (64 / size(class))
			} else {
				s.head(span, whole(spans)...)
			}
			s.words[rootAt(span%4)] = uint64(s.object(span, index, words, 0))
			want := make([]int, 6)
			for left := words; left >= 0; left-- {
				want[span+(words-left)/64]++
			}
			s.uses(words, want...)
		}
	}
}

// Several objects in one span, of which some are reached; those of a large one's spans.
func TestP23_3Several(t *testing.T) {
	s := fresh(t, middle)
	s.head(0, small(2), large(2), more(1), small(0), small(3))
	a, b, c := s.object(0, 0, 7, 3), s.object(0, 5, 4, 0), s.object(0, 7, 6, 0)
	d, e := s.object(1, 0, 80, 1), s.object(3, 31, 1, 1)
	s.object(4, 2, 15, 0)
	s.uses("nothing is reached", 0, 0, 0, 0, 0, 0)
	s.words[rootAt(2)] = uint64(a)
	s.uses("one", 8, 0, 0, 0, 0, 0)
	s.words[a+1], s.words[a+2] = uint64(b), uint64(c)
	s.uses("three", 8+5+7, 0, 0, 0, 0, 0)
	s.words[a+3], s.words[rootAt(0)] = uint64(d), uint64(d)
	s.uses("a large one", 20, 64, 17, 0, 0, 0)
	s.words[d+1] = uint64(e)
	s.words[e+1] = uint64(a)
	s.uses("a loop", 20, 64, 17, 2, 0, 0)
	s.words[rootAt(2)] = 0
	s.uses("by another root", 20, 64, 17, 2, 0, 0)
	s.words[a+3], s.words[a+2] = 0, 0
	s.uses("fewer", 13, 64, 17, 2, 0, 0)
	s.words[rootAt(0)] = 0
	s.uses("nothing is reached again", 0, 0, 0, 0, 0, 0)
}

// An image that is full of objects: as many words as it has, or as they have.
func TestP23_3Full(t *testing.T) {
	for class := range 4 {
		s := fresh(t, least)
		s.head(0, small(class))
		last := rootAt(0)
		for i := range 64 / size(class) {
			at := s.object(0, i, max(1, size(class)/2), 1)
			s.words[last] = uint64(at)
			last = at + 1
		}
		s.uses(class, 64/size(class)*(max(1, size(class)/2)+1))
	}
	s := fresh(t, most)
	for i := range 4 {
		s.head(4*i, whole(4)...)
		s.reach(i, 4*i, 0)
	}
	s.uses("large ones", slices.Repeat([]int{64}, 16)...)
}

// Neither heaps, nor garbage, nor what is free makes a difference.
func TestP23_3Beside(t *testing.T) {
	s := crowd(t)
	want := []int{2, 4, 8, 16, 64, 64, 64, 0}
	s.uses("crowd", want...)
	for span := range 4 {
		s.words[headAt(s.g, span)+1] = 1<<64 - 1
	}
	s.head(7, small(0))
	s.uses("garbage", want...)
}

// None without a superblock that fits, or where the image can't be marked; some where it can, however few.
func TestP23_3None(t *testing.T) {
	for _, g := range few() {
		s := fresh(t, g)
		s.uses(g, make([]int, g.Spans)...)
		for _, words := range [][]uint64{nil, s.words[:len(s.words)-1], append(slices.Clone(s.words), 0), make([]uint64, len(s.words))} {
			if use := census.Use(words); len(use) > 0 {
				t.Fatalf("%v: use %v", g, use)
			}
		}
		s.words[rootAt(g.Roots-1)] = 1
		if use := census.Use(s.words); len(use) > 0 {
			t.Fatalf("%v: use %v", g, use)
		}
	}
}

// Beside a pool's objects, of each class and of several spans.
func TestP23_3Pool(t *testing.T) {
	tr := formatted(t, api.Geometry{Spans: 12, Lanes: 1, Roots: 8})
	want := make([]int, 12)
	for i, words := range []int{1, 2, 3, 5, 12, 16, 100, 255} {
		at := tr.makes(root(i), words, i%2)
		for a := at; a <= at+words; a++ {
			want[(a-spanAt(tr.g, 0))/64]++
		}
		if got := census.Use(tr.words()); !slices.Equal(got, want) {
			t.Fatalf("%d words: %v, not %v", words, got, want)
		}
		tr.right(words)
	}
	tr.does(api.Call{Kind: 2, Dest: root(5)}, api.Call{Kind: 3, Dest: root(7)})
	k := tr.right("fewer")
	if k.count != [5]int{6, 1, 31 + 14 + 7 + 3} || slices.Max(k.use) != 64 || k.use[11] != 0 {
		t.Fatal(k)
	}
}
