package heap_test

import (
	"maps"
	"math"
	"slices"
	"testing"
)

func TestP18_5Free(t *testing.T) {
	x := made(t, with(3, of(small(3), free, small(0), small(2)), 0, 0, left(2), left(1)))
	at := 16 + 3*40 + 4*8
	x.is(x.h.Free(), at, at+16, at+32, at+48, at+128, at+130, at+192)
	x.both(call{refill, 2, 3, 0})
	x.both(call{refill, 0, 0, 0})
	x.is(x.h.Free(), at, at+16, at+32, at+48, at+128, at+130, at+192)
	x.told(call{take, 2, 3, 0}, answer{at, true})
	x.told(call{take, 0, 0, 0}, answer{at + 128, true})
	x.is(x.h.Free(), at+16, at+32, at+48, at+130, at+192)
	x.both(call{give, 1, 1, at})
	x.is(x.h.Free(), at, at+16, at+32, at+48, at+130, at+192)
}

// Whatever address was given is told, each one as often as it is there, and all of them rising.
func TestP18_5Given(t *testing.T) {
	x := made(t, with(2, of(small(3)), left(1)))
	for i, at := range []int{5, -1, math.MaxInt, 64, 5, math.MinInt, 0, 1 << 32, 64, 5, 112, 16 + 80 + 8} {
		x.both(call{give, i % 2, i % 4, at})
	}
	x.is(x.h.Free(), math.MinInt, -1, 0, 5, 5, 5, 64, 64, 104, 104, 112, 1<<32, math.MaxInt)
}

// Each cache, and each list, is in it.
func TestP18_5Each(t *testing.T) {
	for lane := range 4 {
		for class := range 4 {
			x := made(t, with(4, frees(2)))
			x.both(call{give, lane, class, 9})
			x.is(x.h.Free(), 9)
			x.both(call{carve, 1, class, 0})
			x.is(x.h.Free(), append([]int{9}, blocksOf(x.p.g, 1, class)...)...)
		}
	}
}

// Calls of all kinds in mixed orders, on heaps of all kinds, right and wrong, beside plain ones.
func TestP18_5Mixed(t *testing.T) {
	for seed := range uint64(150) {
		below := chance(seed)
		s := mixedScene(seed)
		x := unlooked(t, s)
		for i := range 300 {
			x.unlooked(mixedCall(s.g, below))
			if i%5 == 0 {
				x.same(i)
			}
		}
		x.same(seed)
	}
}

// A keeper takes blocks of a heap, and gives only what it took.
type keeper struct {
	pair
	below func(int) int
	taken []int
	away  map[int]bool // blocks that were never free, by the maps
}

// kept is a keeper of a scene.
func kept(t *testing.T, s scene, seed uint64) *keeper {
	k := &keeper{unlooked(t, s), chance(seed), nil, map[int]bool{}}
	for at := range k.blocks() {
		if !slices.Contains(k.h.Free(), at) {
			k.away[at] = true
		}
	}
	return k
}

// blocks are those of all small spans, by the heap's heads.
func (k *keeper) blocks() map[int]bool {
	l := map[int]bool{}
	for span, h := range k.h.Heads() {
		if h.Kind == 1 {
			for _, at := range blocksOf(k.p.g, span, h.Class) {
				l[at] = true
			}
		}
	}
	return l
}

// giveOne gives one of the blocks that were taken, mostly back to the class that it is of.
func (k *keeper) giveOne() {
	if len(k.taken) == 0 {
		return
	}
	i := k.below(len(k.taken))
	class := k.below(4)
	if h := k.p.heads[(k.taken[i]-spanAt(k.p.g, 0))/64]; k.below(30) > 0 {
		class = h.Class
	}
	k.unlooked(call{give, k.below(k.p.g.Lanes), class, k.taken[i]})
	k.taken = slices.Delete(k.taken, i, i+1)
}

// turn does one call by chance.
func (k *keeper) turn() {
	c := mixedCall(k.p.g, k.below)
	switch c.kind {
	case give:
		k.giveOne()
	case take:
		if got := k.unlooked(c); got.ok {
			k.taken = append(k.taken, got.n)
		}
	case release:
		k.unlooked(call{release, k.h.Empty(), 0, 0})
	default:
		k.unlooked(c)
	}
}

// right fails, if a block is twice, or nowhere, or isn't of a small span.
func (k *keeper) right() {
	k.t.Helper()
	blocks := k.blocks()
	for _, at := range k.h.Free() {
		if !blocks[at] {
			k.t.Fatal("twice, or no block:", at)
		}
		delete(blocks, at)
	}
	for _, at := range k.taken {
		if !blocks[at] {
			k.t.Fatal("taken, and free or no block:", at)
		}
		delete(blocks, at)
	}
	if !maps.Equal(blocks, k.away) {
		k.t.Fatal("lost:", blocks)
	}
}

// Where only what was taken is given, no block is twice, and none is lost.
func TestP18_6Kept(t *testing.T) {
	for seed := range uint64(150) {
		s := mixedScene(seed)
		if seed%3 == 0 {
			clear(s.heads)
		}
		k := kept(t, s, seed)
		for range 300 {
			k.turn()
			k.right()
		}
		k.same(seed)
	}
}

// A span is filled to its last block, all are given back, and it can be released, of each class, by each lane.
func TestP18_6Whole(t *testing.T) {
	for class := range 4 {
		for lane := range 4 {
			k := kept(t, with(4, frees(3)), 0)
			for _, span := range []int{2, 0, 1} {
				k.told(call{carve, span, class, 0}, answer{})
			}
			for k.unlooked(call{refill, lane, class, 0}).n > 0 {
				for got := k.unlooked(call{take, lane, class, 0}); got.ok; got = k.unlooked(call{take, lane, class, 0}) {
					k.taken = append(k.taken, got.n)
					k.right()
				}
			}
			if len(k.taken) != 3*(32>>class) || len(k.h.Free()) != 0 || k.h.Empty() != -1 {
				t.Fatal(class, lane, k.taken)
			}
			for len(k.taken) > 0 {
				k.unlooked(call{give, lane, class, k.taken[0]})
				k.taken = k.taken[1:]
				k.unlooked(call{drain, lane, class, 0})
				k.right()
			}
			k.same("given back")
			if l := k.h.Cache(lane, class); len(l) > 8 {
				t.Fatal(class, lane, l)
			}
			for span := k.h.Empty(); span >= 0; span = k.h.Empty() {
				k.told(call{release, span, 0, 0}, answer{})
				k.right()
			}
		}
	}
}

// Two heaps of the same image to which the same is done tell the same.
func TestP18_6Again(t *testing.T) {
	for seed := range uint64(30) {
		s := mixedScene(seed)
		x, y := unlooked(t, s), unlooked(t, s)
		below, again := chance(seed), chance(seed)
		for range 100 {
			if a, b := x.unlooked(mixedCall(s.g, below)), y.unlooked(mixedCall(s.g, again)); a != b {
				t.Fatal(seed, a, b)
			}
		}
		x.same(seed)
		y.same(seed)
	}
}
