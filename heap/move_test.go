package heap_test

import (
	"math"
	"testing"
)

// The block that came last goes first, whatever its address.
func TestP18_2GiveAndTake(t *testing.T) {
	ats := []int{64, 72, 64, 0, -1, 66, 127, 128, 1 << 14, math.MaxInt, math.MinInt, math.MaxInt32 + 1, 64}
	for lanes := 1; lanes <= 4; lanes++ {
		for class := range 4 {
			for lane := range lanes {
				x := made(t, with(lanes, of(small(class)), math.MaxUint64))
				for _, at := range ats {
					x.told(call{give, lane, class, at}, answer{})
				}
				for i := range ats {
					x.told(call{take, lane, class, 0}, answer{ats[len(ats)-1-i], true})
				}
				x.told(call{take, lane, class, 0}, answer{})
				x.told(call{give, lane, class, 5}, answer{})
				x.told(call{take, lane, class, 0}, answer{5, true})
				x.told(call{take, lane, class, 0}, answer{})
			}
		}
	}
}

// Between them others are given, which go first.
func TestP18_2InTurn(t *testing.T) {
	x := made(t, with(1, frees(1)))
	for _, c := range []struct {
		call
		want answer
	}{
		{call{give, 0, 1, 10}, answer{}},
		{call{give, 0, 1, 20}, answer{}},
		{call{take, 0, 1, 0}, answer{20, true}},
		{call{give, 0, 1, 30}, answer{}},
		{call{give, 0, 1, 40}, answer{}},
		{call{take, 0, 1, 0}, answer{40, true}},
		{call{take, 0, 1, 0}, answer{30, true}},
		{call{give, 0, 1, 0}, answer{}},
		{call{take, 0, 1, 0}, answer{0, true}},
		{call{take, 0, 1, 0}, answer{10, true}},
		{call{take, 0, 1, 0}, answer{0, false}},
	} {
		x.told(c.call, c.want)
	}
}

// Each lane has a cache of its own for each class.
func TestP18_2EachCache(t *testing.T) {
	x := made(t, with(4, frees(1)))
	for lane := range 4 {
		for class := range 4 {
			x.both(call{give, lane, class, 100*lane + class})
			x.both(call{give, lane, class, 100*lane + class + 10})
		}
	}
	for class := range 4 {
		for lane := range 4 {
			x.told(call{take, lane, class, 0}, answer{100*lane + class + 10, true})
		}
	}
	for class := range 4 {
		for lane := range 4 {
			x.told(call{take, lane, class, 0}, answer{100*lane + class, true})
			x.told(call{take, lane, class, 0}, answer{})
		}
	}
}

// left is a map by which only so many blocks, the first ones, are free.
func left(many int) uint64 {
	return math.MaxUint64 << many
}

// Lists with fewer blocks than a Batch, with just as many, with more, and with none, beside caches with none and with some.
func TestP18_2Refill(t *testing.T) {
	for class := range 4 {
		for many := 0; many <= 32>>class; many++ {
			for given := range 11 {
				x := made(t, with(2, of(small(class), free), left(many)))
				x.gives(1, class, 1000, given)
				for n := many; n > 0; n -= 4 {
					x.told(call{refill, 1, class, 0}, answer{n: min(n, 4)})
				}
				x.told(call{refill, 1, class, 0}, answer{})
				for n := range many {
					at := spanAt(x.p.g, 0) + n*(2<<class)
					x.told(call{take, 1, class, 0}, answer{at, true})
				}
			}
		}
	}
}

// Blocks go one by one, the list's last one first, and the cache tells them the other way round.
func TestP18_2RefillOrder(t *testing.T) {
	x := made(t, with(1, of(small(2)), left(6)))
	at := 16 + 40 + 8
	x.is(x.h.List(2), at, at+8, at+16, at+24, at+32, at+40)
	x.told(call{refill, 0, 2, 0}, answer{n: 4})
	x.is(x.h.List(2), at, at+8)
	x.is(x.h.Cache(0, 2), at+40, at+32, at+24, at+16)
	x.told(call{take, 0, 2, 0}, answer{at + 16, true})
	x.told(call{refill, 0, 2, 0}, answer{n: 2})
	x.is(x.h.List(2))
	x.is(x.h.Cache(0, 2), at+40, at+32, at+24, at+8, at)
	x.told(call{refill, 0, 2, 0}, answer{})
	x.is(x.h.Cache(0, 2), at+40, at+32, at+24, at+8, at)
}

// A class's list is one for all lanes, and no other class's.
func TestP18_2RefillLanes(t *testing.T) {
	for class := range 4 {
		x := made(t, with(4, of(small(0), small(1), small(2), small(3))))
		for lane := range 4 {
			for range 3 {
				x.both(call{refill, lane, class, 0})
			}
		}
		for lane := range 4 {
			for other := range 4 {
				if l := x.h.Cache(lane, other); other != class && len(l) != 0 {
					t.Fatal(lane, other, l)
				}
			}
		}
	}
}

// Caches with fewer blocks than Keep, with just as many, with one more, with a Batch more, and with many more.
func TestP18_2Drain(t *testing.T) {
	for class := range 4 {
		for lane := range 3 {
			for many := range 22 {
				x := made(t, with(3, of(small(class), free), left(class)))
				x.gives(lane, class, 1000, many)
				for n := many; n > 8; n -= 4 {
					x.told(call{drain, lane, class, 0}, answer{n: 4})
				}
				x.told(call{drain, lane, class, 0}, answer{})
				x.told(call{drain, (lane + 1) % 3, class, 0}, answer{})
				x.told(call{drain, lane, (class + 1) % 4, 0}, answer{})
			}
		}
	}
}

// The blocks that came first go, in the order in which they came.
func TestP18_2DrainOrder(t *testing.T) {
	x := made(t, with(1, of(small(3)), left(1)))
	at := 16 + 40 + 8
	x.gives(0, 3, 1, 8)
	x.told(call{drain, 0, 3, 0}, answer{})
	x.is(x.h.List(3), at)
	x.gives(0, 3, 9, 1)
	x.told(call{drain, 0, 3, 0}, answer{n: 4})
	x.is(x.h.List(3), at, 1, 2, 3, 4)
	x.is(x.h.Cache(0, 3), 5, 6, 7, 8, 9)
	x.told(call{drain, 0, 3, 0}, answer{})
	x.gives(0, 3, 10, 7)
	x.told(call{drain, 0, 3, 0}, answer{n: 4})
	x.is(x.h.List(3), at, 1, 2, 3, 4, 5, 6, 7, 8)
	x.is(x.h.Cache(0, 3), 9, 10, 11, 12, 13, 14, 15, 16)
	x.told(call{drain, 0, 3, 0}, answer{})
	x.told(call{refill, 0, 3, 0}, answer{n: 4})
	x.is(x.h.Cache(0, 3), 9, 10, 11, 12, 13, 14, 15, 16, 8, 7, 6, 5)
	x.told(call{drain, 0, 3, 0}, answer{n: 4})
	x.is(x.h.List(3), at, 1, 2, 3, 4, 9, 10, 11, 12)
	x.is(x.h.Cache(0, 3), 13, 14, 15, 16, 8, 7, 6, 5)
}

// What was drained by one lane another one is refilled with.
func TestP18_2Through(t *testing.T) {
	x := made(t, with(2, frees(1)))
	x.gives(0, 0, 1, 12)
	x.told(call{drain, 0, 0, 0}, answer{n: 4})
	x.told(call{refill, 1, 0, 0}, answer{n: 4})
	x.is(x.h.Cache(1, 0), 4, 3, 2, 1)
	x.is(x.h.Cache(0, 0), 5, 6, 7, 8, 9, 10, 11, 12)
	x.is(x.h.List(0))
}

// Without such a lane, or class, nothing comes, goes, or is lost.
func TestP18_2Wrong(t *testing.T) {
	for lanes := 1; lanes <= 4; lanes++ {
		x := made(t, with(lanes, of(small(0), small(1), small(2), small(3))))
		for lane := range lanes {
			for class := range 4 {
				x.gives(lane, class, 100*lane+10*class, 10)
			}
		}
		try := func(lane, class int) {
			t.Helper()
			x.unlooked(call{give, lane, class, 7})
			x.unlooked(call{take, lane, class, 0})
			x.unlooked(call{refill, lane, class, 0})
			x.unlooked(call{drain, lane, class, 0})
		}
		for _, class := range wrongs(4) {
			for _, lane := range wrongs(lanes) {
				try(lane, class)
			}
			for lane := range lanes {
				try(lane, class)
			}
			x.same(class)
		}
		for _, lane := range wrongs(lanes) {
			for class := range 4 {
				try(lane, class)
				x.same(lane)
			}
		}
	}
}

// Each of many short orders of the calls on a cache, from each of several states.
func TestP18_2EachOrder(t *testing.T) {
	moves := []call{{take, 0, 3, 0}, {give, 0, 3, 5}, {refill, 0, 3, 0}, {drain, 0, 3, 0}}
	for begin := range 4 {
		for n := range 4 * 4 * 4 * 4 * 4 {
			x := unlooked(t, with(1, of(small(3), small(3)), left(1), left(2)))
			for i := range begin * 4 {
				x.unlooked(call{give, 0, 3, 100 + i})
			}
			for range 5 {
				x.unlooked(moves[n%4])
				n /= 4
			}
			x.same(n)
		}
	}
}

// Many calls on all lanes and classes, in mixed orders.
func TestP18_2Mixed(t *testing.T) {
	for seed := range uint64(40) {
		below := chance(seed)
		x := unlooked(t, with(1+int(seed%4), of(small(0), small(1), small(2), small(3), small(3), small(2)), 0, 5, left(3), 0, 1, 0))
		for i := range 400 {
			x.unlooked(call{below(4), below(x.p.g.Lanes), below(4), i})
			if i%7 == 0 {
				x.same(i)
			}
		}
		x.same(seed)
	}
}
