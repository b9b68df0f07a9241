package deeds_test

import (
	"maps"
	"math"
	"slices"
	"testing"

	"trencher/api"
	"trencher/env"
)

// Each datum of objects of each class, with no slots, with some, and with slots alone: the first one, the last one, one before and one behind.
func TestP19_1Data(t *testing.T) {
	for _, words := range []int{1, 2, 3, 7, 8, 15, 16, 64, 255} {
		for _, slots := range []int{0, 1, words / 2, words} {
			w := fresh(t, most)
			w.stepwise = words < 10
			at := w.do(malloc(root(0), words, slots)).At
			many := words - slots
			for i := range many {
				w.gives(read(at, i), word(0))
				w.gives(write(at, i, uint64(i)+5), api.Answer{})
			}
			for i := range many {
				w.gives(by(1, read(at, i)), word(uint64(i)+5))
			}
			for _, i := range append(wrongs(many), many+1, many+slots, words, words+1) {
				if i >= 0 && i < many {
					continue
				}
				w.gives(read(at, i), wrong(13))
				w.gives(write(at, i, 9), wrong(13))
				w.gives(persist(at, i, 1), wrong(13))
			}
			if many > 0 {
				w.gives(write(at, many-1, math.MaxUint64), api.Answer{})
				w.gives(read(at, many-1), word(math.MaxUint64))
			}
		}
	}
}

// What is written is seen, and isn't kept; what is persisted is kept, line by line.
func TestP19_1Persist(t *testing.T) {
	for _, c := range []struct{ words, slots int }{{1, 0}, {3, 1}, {7, 2}, {15, 3}, {15, 0}, {63, 20}, {255, 0}, {255, 200}} {
		many := c.words - c.slots
		for _, part := range [][2]int{{0, 1}, {0, many}, {many - 1, 1}, {many / 2, many - many/2}, {0, (many + 1) / 2}} {
			w := fresh(t, most)
			w.stepwise = c.words < 20
			at := w.do(malloc(root(0), c.words, c.slots)).At
			d := at + 1 + c.slots // where its data begin
			for i := range many {
				w.do(write(at, i, uint64(i)+70))
				if w.region.Kept()[d+i] != 0 {
					t.Fatal(c, i, "is kept")
				}
			}
			i, n := part[0], part[1]
			w.gives(by(3, persist(at, i, n)), api.Answer{})
			for j := range many {
				line := (d + j) / 8
				kept := line >= (d+i)/8 && line <= (d+i+n-1)/8
				if got := w.region.Kept()[d+j] != 0; got != kept {
					t.Fatal(c, part, j, got)
				}
			}
		}
	}
}

// How many data may be persisted from one on.
func TestP19_1PersistMany(t *testing.T) {
	w := fresh(t, middle)
	at := w.do(malloc(root(0), 15, 4)).At
	none := w.do(malloc(root(1), 2, 2)).At
	for i := -3; i < 15; i++ {
		for n := -3; n < 16; n++ {
			want := wrong(13)
			if i >= 0 && n >= 1 && i+n <= 11 {
				want = api.Answer{}
			}
			w.gives(persist(at, i, n), want)
			w.gives(persist(none, i, n), wrong(13))
		}
	}
	for _, i := range []int{0, 1, 10, 11, -1, math.MaxInt, math.MinInt} {
		for _, n := range append(wrongs(12), math.MaxInt-i, math.MaxInt-i+1, math.MinInt-i, 1-i, 11-i+1) {
			if i >= 0 && i <= 10 && n >= 1 && n <= 11-i {
				continue
			}
			w.gives(persist(at, i, n), wrong(13))
		}
	}
}

// fenced are the words that are kept, if there is a fence behind so many steps of a call, in a world that is made anew.
func fenced(made func() *world, c api.Call, steps int) []uint64 {
	w := made()
	w.run(c).All(steps)
	w.region.Fence()
	return w.region.Kept()
}

// flushes are the lines, by their numbers, that each step of a call flushes (as far as that makes a difference), till its first fence that does; which step that is, from 1 on.
func flushes(made func() *world, c api.Call) (lines map[int]int, fence int) {
	w := made()
	x := w.run(c)
	lines = map[int]int{}
	for start := w.region.Kept(); slices.Equal(w.region.Kept(), start); {
		was := fenced(made, c, x.Steps())
		if x.Step() != env.Stepped {
			return lines, 0
		}
		for a, is := range fenced(made, c, x.Steps()) {
			if is != was[a] {
				lines[x.Steps()] = a / 8
			}
		}
	}
	return lines, x.Steps()
}

// rising holds that the lines from one on are flushed one by one, by rising addresses, right ahead of the fence.
func rising(t *testing.T, what any, made func() *world, c api.Call, from, many int) {
	t.Helper()
	lines, fence := flushes(made, c)
	want := map[int]int{}
	for i := range many {
		want[fence-many+i] = from + i
	}
	if !maps.Equal(lines, want) {
		t.Fatalf("%v: lines %v, then a fence by step %d, not %v", what, lines, fence, want)
	}
}

// Lines are flushed by rising addresses, each once, ahead of one fence.
func TestP19_1PersistLines(t *testing.T) {
	for _, part := range [][2]int{{0, 60}, {0, 1}, {3, 20}, {17, 43}, {59, 1}, {5, 8}} {
		at := 0
		made := func() *world {
			w := fresh(t, middle)
			at = w.do(malloc(root(0), 63, 3)).At
			for i := range 60 {
				w.do(write(at, i, 1))
			}
			return w
		}
		made()
		from, to := (at+4+part[0])/8, (at+4+part[0]+part[1]-1)/8
		rising(t, part, made, persist(at, part[0], part[1]), from, to-from+1)
	}
}

// So are those of an object's words that are stored as 0.
func TestP19_1MallocLines(t *testing.T) {
	for _, c := range []struct{ words, lines int }{{16, 3}, {23, 3}, {24, 4}, {63, 8}, {64, 9}, {255, 32}} {
		made := func() *world { return fresh(t, middle) }
		rising(t, c, made, malloc(root(0), c.words, 0), spanAt(middle, 0)/8, c.lines)
	}
	for _, c := range []struct{ words, line, lines int }{{1, 0, 1}, {3, 1, 1}, {7, 3, 1}, {8, 6, 2}, {15, 6, 2}} {
		// The span is carved ahead of that, so that its fence isn't the first one.
		made := func() *world {
			w := fresh(t, middle)
			w.do(malloc(root(1), c.words, 0))
			w.do(free(root(1)))
			at := spanAt(middle, 0) + c.line*8
			for a := at; a < at+16; a++ {
				w.turn(a, 5)
			}
			return w
		}
		rising(t, c, made, malloc(root(0), c.words, 0), spanAt(middle, 0)/8+c.line, c.lines)
	}
}

// All words of an object are 0, and kept, ahead of its log.
func TestP19_1MallocBlank(t *testing.T) {
	for _, words := range []int{1, 3, 7, 15, 63, 200} {
		w := fresh(t, middle)
		x := w.run(malloc(root(0), words, 0))
		at := spanAt(middle, 0)
		if class := classOf(words); class < 4 {
			at += 3 * 2 << class
		}
		was := w.region.Seen()[at]
		for !x.Over() && w.region.Seen()[laneAt(0)] == 0 {
			// The block's first word isn't one of the object's.
			if w.region.Seen()[at] != was || w.region.Seen()[8] != 0 {
				t.Fatal(words, "turned ahead of its log")
			}
			x.Step()
		}
		for i := range words {
			if w.region.Seen()[at+1+i] != 0 || w.region.Kept()[at+1+i] != 0 {
				t.Fatal(words, i)
			}
		}
	}
}
