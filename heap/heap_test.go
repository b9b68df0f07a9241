package heap_test

import (
	"math"
	"slices"
	"testing"

	"trencher/api"
	"trencher/heap"
)

// some are maps with no bit, with all, with one, and with several, also such as no class has blocks for.
func some() []uint64 {
	l := []uint64{0, math.MaxUint64, 0x5555555555555555, 0xaaaaaaaaaaaaaaaa, 0xffffffff, 0xffffffff << 32, 0xffff, 0xff, 0xf, 0x7fffffff, 0x7fff, 0x7f, 7}
	for bit := range 64 {
		l = append(l, 1<<bit)
	}
	return l
}

func TestP18_Constants(t *testing.T) {
	if heap.Batch != 4 || heap.Keep != 8 {
		t.Error(heap.Batch, heap.Keep)
	}
}

// The chapter's example.
func TestP18_Example(t *testing.T) {
	x := made(t, with(1, frees(1)))
	x.told(call{carve, 0, 3, 0}, answer{})
	x.told(call{refill, 0, 3, 0}, answer{n: 4})
	x.told(call{take, 0, 3, 0}, answer{64 + 48, true})
}

func TestP18_1Fresh(t *testing.T) {
	for _, g := range everyGeometry() {
		x := made(t, scene{g, frees(g.Spans), make([]uint64, g.Spans)})
		if l := x.h.Free(); len(l) != 0 {
			t.Fatalf("%v: %v", g, l)
		}
	}
}

// Where the blocks are hangs on how many lanes and spans there are.
func TestP18_1EachGeometry(t *testing.T) {
	for _, g := range everyGeometry() {
		s := scene{g, nil, make([]uint64, g.Spans)}
		for span := range g.Spans {
			s.heads = append(s.heads, small(span%4))
			s.maps[span] = uint64(span % 3)
		}
		made(t, s)
	}
}

// Each head there is, with each of many maps.
func TestP18_1OneSpan(t *testing.T) {
	for _, h := range every() {
		for _, m := range some() {
			for lanes := 1; lanes <= 4; lanes += 3 {
				made(t, with(lanes, of(h), m))
			}
		}
	}
}

// The numbers of the blocks, written out.
func TestP18_1List(t *testing.T) {
	x := made(t, with(1, of(small(1), large(1), small(3), small(1), small(0)), 0xfff1, 0, 5, 0x7fff, 0xffffffff))
	at := 16 + 40 + 5*8
	x.is(x.h.List(0))
	x.is(x.h.List(1), at+4, at+8, at+12, at+192+60)
	x.is(x.h.List(2))
	x.is(x.h.List(3), at+128+16, at+128+48)
}

// Every list of up to three heads, also such as don't fit one behind the other: what they tell is of each small span, and of no other.
func TestP18_1EveryList(t *testing.T) {
	for many := 1; many <= 3; many++ {
		for i, heads := range everyList(many, every()...) {
			made(t, with(1+i%4, heads, []uint64{2, 0, math.MaxUint64}[:many]...))
		}
	}
}

func TestP18_1Mixed(t *testing.T) {
	for seed := range uint64(300) {
		made(t, mixedScene(seed))
	}
}

// none fails, if there is a heap of a scene.
func none(t *testing.T, s scene) {
	t.Helper()
	if h := heap.New(s.g, s.heads, s.maps); h != nil {
		t.Fatalf("New(%v): a heap", s)
	}
}

func TestP18_1NoGeometry(t *testing.T) {
	for _, n := range wrongs(17) {
		none(t, scene{api.Geometry{Spans: n, Lanes: 1, Roots: 1}, nil, nil})
		none(t, scene{api.Geometry{Spans: n, Lanes: 1, Roots: 1}, frees(1), make([]uint64, 1)})
		if n > 0 && n < 1000 {
			none(t, scene{api.Geometry{Spans: n, Lanes: 1, Roots: 1}, frees(n), make([]uint64, n)})
		}
	}
	none(t, scene{api.Geometry{Spans: 0, Lanes: 1, Roots: 1}, nil, nil})
	for _, spans := range []int{1, 16} {
		for _, n := range append(wrongs(5), 0) {
			none(t, scene{api.Geometry{Spans: spans, Lanes: n, Roots: 1}, frees(spans), make([]uint64, spans)})
		}
		for _, n := range append(wrongs(9), 0) {
			none(t, scene{api.Geometry{Spans: spans, Lanes: 1, Roots: n}, frees(spans), make([]uint64, spans)})
		}
	}
	none(t, scene{})
}

// Heads, or maps, or both, are too few, too many, or none.
func TestP18_1NotAsMany(t *testing.T) {
	for spans := 1; spans <= 16; spans++ {
		for heads := range 19 {
			for maps := range 19 {
				s := scene{api.Geometry{Spans: spans, Lanes: 2, Roots: 3}, frees(heads), make([]uint64, maps)}
				if heads != spans || maps != spans {
					none(t, s)
				} else {
					made(t, s)
				}
			}
		}
	}
	g := api.Geometry{Spans: 1, Lanes: 1, Roots: 1}
	none(t, scene{g, nil, []uint64{0}})
	none(t, scene{g, frees(1), nil})
	none(t, scene{g, nil, nil})
}

func TestP18_1NoHeads(t *testing.T) {
	for _, h := range noHeads() {
		none(t, with(1, of(h)))
		for span := range 4 {
			heads := of(small(1), large(2), more(1), free)
			heads[span] = h
			none(t, with(2, heads))
		}
		none(t, with(1, append(frees(15), h)))
		none(t, with(1, append(of(h), frees(15)...)))
	}
}

// Of classes and lanes that there aren't nothing is told.
func TestP18_1Wrong(t *testing.T) {
	for lanes := 1; lanes <= 4; lanes++ {
		x := made(t, with(lanes, of(small(0), small(1), small(2), small(3))))
		for lane := range lanes {
			for class := range 4 {
				x.gives(lane, class, 10*lane+class, 3)
			}
		}
		for _, class := range wrongs(4) {
			if l := x.h.List(class); len(l) != 0 {
				t.Fatalf("List(%d): %v", class, l)
			}
			for lane := range lanes {
				if l := x.h.Cache(lane, class); len(l) != 0 {
					t.Fatalf("Cache(%d, %d): %v", lane, class, l)
				}
			}
			for _, lane := range wrongs(lanes) {
				if l := x.h.Cache(lane, class); len(l) != 0 {
					t.Fatalf("Cache(%d, %d): %v", lane, class, l)
				}
			}
		}
		for _, lane := range wrongs(lanes) {
			for class := range 4 {
				if l := x.h.Cache(lane, class); len(l) != 0 {
					t.Fatalf("Cache(%d, %d) of %d lanes: %v", lane, class, lanes, l)
				}
			}
		}
		x.same("wrong")
	}
}

// spoil writes into a list, its spare room too.
func spoil[T any](l []T, x T) {
	for i := range l[:cap(l)] {
		l[:cap(l)][i] = x
	}
}

// spoilt spoils all that a heap tells. What it has, and what it tells further on, isn't that.
func (x pair) spoilt() {
	x.t.Helper()
	told := func() [][]int {
		l := [][]int{x.h.Free()}
		for class := range 4 {
			l = append(l, x.h.List(class))
			for lane := range x.p.g.Lanes {
				l = append(l, x.h.Cache(lane, class))
			}
		}
		return l
	}
	first, second := told(), told()
	heads, heads2 := x.h.Heads(), x.h.Heads()
	spoil(heads, large(3))
	for i := range first {
		want := slices.Clone(second[i])
		spoil(first[i], -9)
		x.equal("spoilt", i, second[i], want)
	}
	if !slices.Equal(heads2, x.p.heads) {
		x.t.Fatal("heads are shared:", heads2)
	}
	x.same("spoilt")
}

// What is told is new memory, whatever was done ahead, and whatever is done behind.
func TestP18_1Copies(t *testing.T) {
	for seed := range uint64(60) {
		below := chance(seed)
		s := mixedScene(seed)
		x := unlooked(t, s)
		for range 40 {
			x.unlooked(mixedCall(s.g, below))
			x.spoilt()
		}
	}
}

// An append to what was told isn't seen by the heap, nor one of the heap's by what was told.
func TestP18_1Appended(t *testing.T) {
	x := made(t, with(1, of(small(3), free)))
	for range 20 {
		list, cache, free := x.h.List(3), x.h.Cache(0, 3), x.h.Free()
		wants := [][]int{slices.Clone(list), slices.Clone(cache), slices.Clone(free)}
		_, _, _ = append(list, -1), append(cache, -2), append(free, -3)
		x.both(call{give, 0, 3, 9})
		x.both(call{drain, 0, 3, 0})
		x.both(call{take, 0, 3, 0})
		x.both(call{give, 0, 3, 8})
		x.both(call{give, 0, 3, 7})
		for i, l := range [][]int{list, cache, free} {
			x.equal("told ahead", i, l, wants[i])
		}
	}
}

// What is handed in is neither changed nor kept, nor is its spare room.
func TestP18_1HandedIn(t *testing.T) {
	for seed := range uint64(100) {
		s := mixedScene(seed)
		n := s.g.Spans
		heads := append(slices.Clone(s.heads), large(4), more(2), small(3))
		maps := append(slices.Clone(s.maps), 77, 78, 79)
		allHeads, allMaps := slices.Clone(heads), slices.Clone(maps)
		x := pair{t, heap.New(s.g, heads[:n], maps[:n]), newPlain(s)}
		below := chance(seed)
		for range 60 {
			x.unlooked(mixedCall(s.g, below))
		}
		if !slices.Equal(heads, allHeads) || !slices.Equal(maps, allMaps) {
			t.Fatal("turned:", heads, maps)
		}
		spoil(heads, small(2))
		spoil(maps, math.MaxUint64)
		x.same("handed in")
		for range 20 {
			x.both(mixedCall(s.g, below))
		}
	}
}

// Heaps of the same image have nothing in common.
func TestP18_1Two(t *testing.T) {
	for seed := range uint64(50) {
		s := mixedScene(seed)
		x, y := unlooked(t, s), unlooked(t, s)
		below := chance(seed)
		for range 60 {
			x.unlooked(mixedCall(s.g, below))
			x.same("one")
			y.same("the other one")
			if below(2) == 0 {
				y.unlooked(mixedCall(s.g, below))
			}
		}
	}
}

// What New didn't make has no spans and no lanes.
func TestP18_1NoHeap(t *testing.T) {
	var zero heap.Heap
	numbers := []int{0, 1, 3, 4, -1, math.MaxInt, math.MinInt}
	for _, h := range []*heap.Heap{&zero, nil, heap.New(api.Geometry{}, nil, nil)} {
		for _, a := range numbers {
			for _, b := range numbers {
				h.Give(a, b, 64)
				if at, ok := h.Take(a, b); at != 0 || ok || h.Refill(a, b) != 0 || h.Drain(a, b) != 0 || len(h.Cache(a, b)) != 0 {
					t.Error(a, b, at, ok)
				}
				if h.Carve(a, b) != api.ErrArg || h.Large(a, b) != api.ErrArg {
					t.Error(a, b)
				}
			}
			if h.Room(a) != -1 || h.Loose(a) != api.ErrArg || h.Release(a) != api.ErrArg || len(h.List(a)) != 0 {
				t.Error(a)
			}
		}
		if h.Empty() != -1 || len(h.Heads()) != 0 || len(h.Free()) != 0 {
			t.Error(h.Empty(), h.Heads(), h.Free())
		}
	}
}
