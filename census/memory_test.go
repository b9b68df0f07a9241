package census_test

import (
	"slices"
	"testing"

	"trencher/api"
	"trencher/census"
	"trencher/pool"
)

// spoil writes into a list, its spare room too.
func spoil(l []int) {
	for i := range l[:cap(l)] {
		l[:cap(l)][i] = -77
	}
}

// What is told is new memory: neither the words nor the heap turn with it, nor what is told further on, nor the other list.
func TestP23_1Unshared(t *testing.T) {
	for _, s := range []*scene{crowd(t), fresh(t, least)} {
		h := s.heap()
		check := unturned(t, s.words, h)
		was := s.agrees("as it is", h)
		begins, states, _ := census.States(s.words, h)
		others, are, _ := census.States(s.words, h)
		spoil(begins)
		if !slices.Equal(states, was.states) || !slices.Equal(others, was.begins) {
			t.Fatal("where blocks begin is shared")
		}
		check("begins")
		spoil(states)
		if !slices.Equal(others, was.begins) || !slices.Equal(are, was.states) {
			t.Fatal("what blocks are is shared")
		}
		check("states")
		s.agrees("once more", h)
	}
}

func TestP23_3Unshared(t *testing.T) {
	for _, s := range []*scene{crowd(t), fresh(t, least), fresh(t, most)} {
		was := slices.Clone(s.words)
		use, other := census.Use(s.words), census.Use(s.words)
		want := slices.Clone(use)
		spoil(use)
		if !slices.Equal(other, want) || !slices.Equal(census.Use(s.words), want) || !slices.Equal(s.words, was) {
			t.Fatal("what is used is shared")
		}
	}
}

// What was told stays as it is, whatever becomes of the words and of the heap.
func TestP23_1Kept(t *testing.T) {
	s := crowd(t)
	h := s.heap()
	was := s.agrees("as it is", h)
	begins, states, _ := census.States(s.words, h)
	use := census.Use(s.words)
	for class := range 4 {
		h.Refill(1, class)
		h.Take(1, class)
		h.Give(1, class, 5)
	}
	clear(s.words)
	if !slices.Equal(begins, was.begins) || !slices.Equal(states, was.states) || !slices.Equal(use, was.use) {
		t.Fatal(begins, states, use)
	}
	corrupt(t, "zeros", s.words, h)
}

// Words that are handed in stay as they are, their spare room too.
func TestP23_1SpareRoom(t *testing.T) {
	for _, s := range []*scene{crowd(t), fresh(t, most)} {
		words := append(slices.Clone(s.words), 5, 6, 7, 8, 9)
		all := slices.Clone(words)
		words = words[:len(s.words)]
		h := s.heap()
		census.States(words, h)
		census.Count(words, h)
		census.Right(words, h)
		census.Use(words)
		if !slices.Equal(words[:len(all)], all) {
			t.Fatal("words, or what is behind them, turned")
		}
	}
}

// The same is told again and again, whatever was asked between.
func TestP23_1Again(t *testing.T) {
	s, _, _, _ := chained(t)
	o := crowd(t)
	h := s.heap()
	was := s.agrees("as it is", h)
	for range 50 {
		o.agrees("between", o.heap())
		corrupt(t, "between", o.words[:9], h)
		begins, states, ok := census.States(s.words, h)
		if !ok || !slices.Equal(begins, was.begins) || !slices.Equal(states, was.states) || census.Count(s.words, h) != was.count || !census.Right(s.words, h) || !slices.Equal(census.Use(s.words), was.use) {
			t.Fatal(begins, states, ok)
		}
	}
}

// What is asked of a pool does no step, and turns nothing: neither what programs see, nor what is kept or noted, nor the heap, nor who has locks, nor how many steps are left.
func TestP23_2Unturned(t *testing.T) {
	made := func() (*pool.Pool, int) {
		tr, a, _, _ := middling(t)
		p := tr.pool
		p.WriteData(a, 0, 5)
		p.Region().Flush(a + 4)
		p.WriteData(a, 1, 6)
		p.Locks().Take(api.LockHeap, 1)
		p.Limit(40)
		return p, a
	}
	p, a := made()
	q, _ := made()
	h := p.Heap()
	check := unturned(t, p.Region().Seen(), h)
	for range 100 {
		census.Of(p)
	}
	check("asked")
	same := func(what string) {
		t.Helper()
		if !slices.Equal(p.Region().Seen(), q.Region().Seen()) || !slices.Equal(p.Region().Kept(), q.Region().Kept()) || p.Region().Steps() != q.Region().Steps() {
			t.Fatalf("%s: the region turned", what)
		}
		if p.Locks().Owner(0) != q.Locks().Owner(0) || p.Locks().Owner(1) != -1 || p.Locks().Taken() != q.Locks().Taken() {
			t.Fatalf("%s: locks turned", what)
		}
	}
	same("asked")
	if p.Heap() != h || p.Geometry() != q.Geometry() {
		t.Fatal("another heap")
	}
	for n := 0; ; n++ {
		x, code := p.ReadData(a, 0)
		if y, other := q.ReadData(a, 0); x != y || code != other {
			t.Fatalf("call %d: %d, %d, not %d, %d", n, x, code, y, other)
		}
		census.Of(p)
		same("beside calls")
		if code != api.OK {
			break
		}
	}
	for _, p := range []*pool.Pool{p, q} {
		p.Region().Fence()
	}
	same("what was noted")
}
