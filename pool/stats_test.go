package pool_test

import (
	"math/bits"
	"slices"
	"testing"

	"trencher/api"
	"trencher/heap"
	"trencher/pool"
)

// sizes are how many words blocks of each class have.
var sizes = []int{2, 4, 8, 16, 64}

// told by words alone: how many spans are free, how many objects roots lead to and their words, how many bits there are beside theirs, how many blocks have none. It holds where no call is under way, and the image can be marked.
func byWords(g api.Geometry, words []uint64) api.Stats {
	var s api.Stats
	blocks, taken := 0, 0
	for span := range g.Spans {
		w := words[headAt(g, span)]
		kind, class := w%4, w/4%8
		switch kind {
		case 0:
			s.Spans++
		case 1:
			blocks += 64 / sizes[class]
			taken += bits.OnesCount64(words[headAt(g, span)+1])
		case 2:
			s.Garbage++ // but for those that are counted below
		}
	}
	reached := map[uint64]bool{0: true}
	todo := slices.Clone(words[8 : 8+g.Roots])
	for len(todo) > 0 {
		at := todo[0]
		todo = todo[1:]
		if reached[at] {
			continue
		}
		reached[at] = true
		first := words[at]
		s.Objects++
		s.Words += int(first >> 24)
		todo = append(todo, words[at+1:at+1+first>>16%256]...)
	}
	s.Garbage += taken - s.Objects
	s.Free = blocks - taken
	return s
}

// Stats beside what is counted from the words that programs see, behind each call of a script, and behind power that failed.
func TestP21_4Stats(t *testing.T) {
	garbage, large := 0, 0
	for seed, g := range few() {
		tr := formatted(t, g)
		m := &maker{tr, chance(seed + 70)}
		for range 5 {
			for range 60 {
				tr.do(atOnce, m.call())
				got, want := tr.pool.Stats(), byWords(g, tr.pool.Region().Seen())
				want.Steps = tr.pool.Region().Steps()
				if got != want {
					t.Fatalf("%v: %+v, not %+v", g, got, want)
				}
				if n := len(tr.plain.reached()); n != got.Objects || len(tr.plain.things)-n != got.Garbage {
					t.Fatalf("%v: %+v, not %d objects and %d of garbage", g, got, n, len(tr.plain.things)-n)
				}
				garbage, large = max(garbage, got.Garbage), max(large, got.Words)
			}
			tr.fails(pickers()[1])
			if s := tr.pool.Stats(); s.Garbage != 0 || s.Objects != len(tr.plain.things) {
				t.Fatalf("%v: %+v", g, s)
			}
		}
	}
	if garbage < 2 || large < 200 {
		t.Errorf("at most %d of garbage, %d words", garbage, large)
	}
}

// What is asked for does no step, and turns nothing, also in the middle of calls.
func TestP21_4Asking(t *testing.T) {
	for _, c := range scene(t, middling).calls() {
		tr := scene(t, middling)
		tr.unsure()
		x, h := tr.pool.Begin(c), tr.hand.run(c)
		for !h.Over() {
			x.Step()
			h.Step()
			for range 2 {
				tr.pool.Stats()
				if tr.pool.Geometry() != middling || tr.pool.Region() == nil || tr.pool.Heap() == nil || tr.pool.Locks() == nil {
					t.Fatal("something is gone")
				}
			}
			like(t, c, tr.pool, tr.hand)
		}
		tr.pool.Region().Fence()
		tr.hand.region.Fence()
		like(t, c, tr.pool, tr.hand)
	}
}

// Where roots lead to what isn't right, nothing is told to be reached, and garbage as layer 13 tells it then. The heap's are counted, and the steps, all the same.
func TestP21_4StatsUnmarked(t *testing.T) {
	for _, s := range spoilers(scene(t, middling)) {
		tr := scene(t, middling)
		was := tr.pool.Stats()
		tr.pool.Region().Store(s.At, s.X)
		got := tr.pool.Stats()
		if s.At < 8 { // no layer that counts here looks at the superblock
			was.Steps++
			if got != was {
				t.Fatalf("%v: %+v, not %+v", s, got, was)
			}
			continue
		}
		if want := (api.Stats{Spans: was.Spans, Free: was.Free, Garbage: -1, Steps: was.Steps + 1}); got != want {
			t.Fatalf("%v: %+v, not %+v", s, got, want)
		}
	}
}

// What a pool has is itself: what is done to it is done to the pool. Power that fails leaves the region and the table, and makes another heap.
func TestP21_4Themselves(t *testing.T) {
	tr := scene(t, middling)
	p := tr.pool
	r, h, l := p.Region(), p.Heap(), p.Locks()
	a, _, _ := tr.where()
	r.Store(a+4, 77)
	if x, _ := p.ReadData(a, 0); x != 77 || p.Region() != r || p.Heap() != h || p.Locks() != l {
		t.Error(x)
	}
	if at, ok := h.Take(0, 2); !ok || slices.Contains(p.Heap().Free(), at) {
		t.Error(at, ok)
	}
	if code := p.Fail(nil); code != 0 || p.Region() != r || p.Locks() != l || p.Heap() == h {
		t.Error(code)
	}
	if p.Geometry() != middling || pool.Format(most).Geometry() != most {
		t.Error(p.Geometry())
	}
	if got, want := len(p.Heap().Free()), 8-2; got != want {
		t.Errorf("%d blocks are free, not %d", got, want)
	}
}

// Of nil: ErrPower, nil, zero.
func TestP21_1Nil(t *testing.T) {
	for what, p := range map[string]*pool.Pool{"nil": nil, "zero": {}} {
		offNames(t, p)
		p.Limit(3)
		p.Limit(-1)
		for kind := range 10 {
			c := api.Call{Kind: kind, Dest: root(0), Words: 3, Many: 1}
			if a := p.Do(c); a != wrong(12) || p.Begin(c) != nil {
				t.Errorf("%s: %v", what, a)
			}
		}
		var many []int
		pick := asked(&many, chance(1))
		if p.Fail(pick) != 12 || p.Fail(nil) != 12 || p.FailIn(nil, nil) != 12 || p.FailIn([]int{-1, 5}, pick) != 12 || len(many) > 0 {
			t.Errorf("%s: power failed", what)
		}
		if p.Geometry() != (api.Geometry{}) || p.Region() != nil || p.Heap() != (*heap.Heap)(nil) || p.Locks() != nil || p.Stats() != (api.Stats{}) {
			t.Errorf("%s: it has something", what)
		}
		offNames(t, p)
	}
}
