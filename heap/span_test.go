package heap_test

import (
	"math"
	"slices"
	"testing"

	"trencher/api"
)

// wrong is what a call tells that tells ErrArg.
var wrong = answer{n: 1}

// crowd are heads of 16 spans of all kinds, two of them free at the end.
func crowd() []api.Head {
	return join(of(small(0)), block(4), of(small(1), free, small(2)), block(3), of(small(3)), block(2), frees(2))
}

// Which of twelve spans are free hangs on a number's bits: each way there is.
func TestP18_3RoomEachWay(t *testing.T) {
	taken := []api.Head{small(0), large(1), more(1), small(3), large(4)}
	for n := range 1 << 12 {
		heads := frees(12)
		for span := range heads {
			if n>>span&1 == 1 {
				heads[span] = taken[(n+span)%len(taken)]
			}
		}
		x := unlooked(t, with(1, heads))
		for many := -1; many <= 6; many++ {
			if span := x.h.Room(many); span != x.p.room(many) {
				t.Fatalf("%v: Room(%d): %d, not %d", heads, many, span, x.p.room(many))
			}
		}
	}
}

// Room that is at the beginning, in the middle, and at the end of 1 to 16 spans, and just too little.
func TestP18_3Room(t *testing.T) {
	for spans := 1; spans <= 16; spans++ {
		for many := 1; many <= 4; many++ {
			for begin := range spans {
				heads := slices.Repeat(of(small(1)), spans)
				for span := begin; span < min(begin+many, spans); span++ {
					heads[span] = free
				}
				want := begin
				if begin+many > spans {
					want = -1
				}
				x := made(t, with(1, heads))
				if span := x.h.Room(many); span != want {
					t.Fatalf("%v: Room(%d): %d, not %d", heads, many, span, want)
				}
				if many > 1 && begin+many <= spans {
					heads[begin+many/2] = large(1)
					made(t, with(1, heads))
				}
			}
		}
	}
}

// The least span with room is told, though one behind it has more, or just as much.
func TestP18_3RoomLeast(t *testing.T) {
	x := made(t, with(1, join(of(small(0), free, small(0), free, free, small(0), free, free, free, small(0)), frees(5), of(free))))
	for many, want := range []int{-1, 1, 3, 6, 10, -1} {
		if span := x.h.Room(many); span != want {
			t.Errorf("Room(%d): %d, not %d", many, span, want)
		}
	}
}

func TestP18_3RoomWrong(t *testing.T) {
	for _, heads := range [][]api.Head{frees(16), frees(5), frees(1), crowd()} {
		x := made(t, with(1, heads))
		for _, many := range noManys() {
			if span := x.h.Room(many); span != -1 {
				t.Errorf("Room(%d): %d", many, span)
			}
		}
		x.same("wrong")
	}
}

// Each span of each of several geometries, as each class: its blocks come, the last one first.
func TestP18_3Carve(t *testing.T) {
	for _, spans := range []int{1, 2, 7, 16} {
		for lanes := 1; lanes <= 4; lanes++ {
			for span := range spans {
				for class := range 4 {
					x := made(t, with(lanes, frees(spans)))
					x.told(call{carve, span, class, 0}, answer{})
					want := blocksOf(x.p.g, span, class)
					slices.Reverse(want)
					x.is(x.h.List(class), want...)
					x.told(call{carve, span, class, 0}, wrong)
					x.told(call{refill, lanes - 1, class, 0}, answer{n: 4})
					for i := range 4 {
						x.told(call{take, lanes - 1, class, 0}, answer{want[len(want)-4+i], true})
					}
				}
			}
		}
	}
}

// What is in the list already stays below what comes.
func TestP18_3CarveBehind(t *testing.T) {
	x := made(t, with(1, of(free, small(3), free), 0, left(1), 0))
	at := 16 + 40 + 24
	x.told(call{carve, 2, 3, 0}, answer{})
	x.told(call{carve, 0, 3, 0}, answer{})
	x.is(x.h.List(3), at+64, at+128+48, at+128+32, at+128+16, at+128, at+48, at+32, at+16, at)
	x.told(call{refill, 0, 3, 0}, answer{n: 4})
	x.is(x.h.Cache(0, 3), at, at+16, at+32, at+48)
}

// What isn't free isn't carved; nor is a span that there isn't, nor for a class that there isn't.
func TestP18_3CarveWrong(t *testing.T) {
	for _, heads := range [][]api.Head{crowd(), frees(1), frees(16), every()} {
		x := made(t, with(2, heads))
		for span, h := range heads {
			for _, class := range wrongs(4) {
				x.unlooked(call{carve, span, class, 0})
			}
			for class := range 4 {
				if h != free {
					x.unlooked(call{carve, span, class, 0})
				}
			}
			x.same(span)
		}
		for _, span := range wrongs(len(heads)) {
			for _, class := range append(wrongs(4), 0, 1, 2, 3) {
				x.unlooked(call{carve, span, class, 0})
			}
			x.same(span)
		}
	}
}

// A large block of each size, at each span of each number of spans.
func TestP18_3LargeAndLoose(t *testing.T) {
	for spans := 1; spans <= 16; spans++ {
		for many := 1; many <= 4; many++ {
			for span := range spans {
				x := made(t, with(1, frees(spans)))
				if span+many > spans {
					x.told(call{makeLarge, span, many, 0}, wrong)
					continue
				}
				x.told(call{makeLarge, span, many, 0}, answer{})
				x.told(call{makeLarge, span, many, 0}, wrong)
				for i := range many {
					if h := x.h.Heads()[span+i]; h != block(many)[i] {
						t.Fatal(span, many, i, h)
					}
				}
				for other := range spans {
					if other != span {
						x.told(call{loose, other, 0, 0}, wrong)
					}
				}
				x.told(call{loose, span, 0, 0}, answer{})
				x.told(call{loose, span, 0, 0}, wrong)
			}
		}
	}
}

// Large and Loose turn no list and no cache, and leave what stands beside.
func TestP18_3LargeBeside(t *testing.T) {
	x := made(t, with(1, join(of(small(1)), frees(9), of(small(2))), left(3)))
	x.gives(0, 2, 50, 3)
	x.told(call{makeLarge, 1, 4, 0}, answer{})
	x.told(call{makeLarge, 7, 3, 0}, answer{})
	x.told(call{makeLarge, 5, 3, 0}, wrong)
	x.told(call{makeLarge, 5, 2, 0}, answer{})
	x.told(call{loose, 5, 0, 0}, answer{})
	x.told(call{makeLarge, 5, 1, 0}, answer{})
	x.told(call{makeLarge, 6, 1, 0}, answer{})
	x.told(call{loose, 1, 0, 0}, answer{})
	x.told(call{loose, 6, 0, 0}, answer{})
	x.told(call{loose, 7, 0, 0}, answer{})
	x.told(call{makeLarge, 6, 4, 0}, answer{})
}

func TestP18_3LargeWrong(t *testing.T) {
	for _, heads := range [][]api.Head{frees(16), frees(4), frees(1), crowd(), every()} {
		x := made(t, with(1, heads))
		for _, many := range noManys() {
			for span := range heads {
				x.unlooked(call{makeLarge, span, many, 0})
			}
			for _, span := range wrongs(len(heads)) {
				x.unlooked(call{makeLarge, span, many, 0})
			}
		}
		for _, span := range append(wrongs(len(heads)), -3, -5, math.MaxInt-3, math.MinInt+3) {
			for many := 1; many <= 4; many++ {
				x.unlooked(call{makeLarge, span, many, 0})
			}
		}
		x.same("wrong")
	}
}

// One span of those that are asked for isn't free: each one, of each kind.
func TestP18_3LargeTaken(t *testing.T) {
	for many := 1; many <= 4; many++ {
		for at := range many {
			for _, h := range every()[1:] {
				heads := frees(6)
				heads[1+at] = h
				x := made(t, with(1, heads))
				x.told(call{makeLarge, 1, many, 0}, wrong)
			}
		}
	}
}

// Every list of up to four heads: of each span, whether a large block begins there all of whose spans are there.
func TestP18_3LooseEveryList(t *testing.T) {
	for many := 1; many <= 4; many++ {
		for _, heads := range everyList(many, every()...) {
			for span := range many {
				if heads[span].Kind == 2 {
					x := unlooked(t, with(1, heads))
					x.unlooked(call{loose, span, 0, 0})
					if !slices.Equal(x.h.Heads(), x.p.heads) {
						t.Fatalf("%v: Loose(%d): %v", heads, span, x.h.Heads())
					}
				}
			}
		}
	}
}

// A large block that has lost one of its spans, each one in turn, to what stands there instead.
func TestP18_3LooseBroken(t *testing.T) {
	for many := 2; many <= 4; many++ {
		for at := 1; at < many; at++ {
			for _, h := range every() {
				heads := join(of(free), block(many), of(free))
				intact := heads[1+at] == h
				heads[1+at] = h
				x := made(t, with(1, heads))
				if intact {
					x.told(call{loose, 1, 0, 0}, answer{})
				} else {
					x.told(call{loose, 1, 0, 0}, wrong)
				}
			}
			x := made(t, with(1, join(of(free), block(many)[:at])))
			x.told(call{loose, 1, 0, 0}, wrong)
		}
	}
}

func TestP18_3LooseWrong(t *testing.T) {
	for _, heads := range [][]api.Head{crowd(), every(), block(4), frees(16), block(1)} {
		x := made(t, with(1, heads))
		for _, span := range wrongs(len(heads)) {
			x.unlooked(call{loose, span, 0, 0})
		}
		for span, h := range heads {
			if h.Kind != 2 {
				x.told(call{loose, span, 0, 0}, wrong)
			}
		}
		x.same("wrong")
	}
}

// Each call, with each span and number, on every list of up to two heads.
func TestP18_3EveryCall(t *testing.T) {
	for many := 1; many <= 2; many++ {
		for _, heads := range everyList(many, every()...) {
			for _, kind := range []int{carve, makeLarge, loose, release} {
				for span := -1; span <= many; span++ {
					for n := -1; n <= 5; n++ {
						x := unlooked(t, with(1, heads))
						x.unlooked(call{kind, span, n, 0})
						x.same(heads)
					}
				}
			}
		}
	}
}

// A span of each class: it is empty as long as no block of it is in a cache, or anywhere else.
func TestP18_4Empty(t *testing.T) {
	for class := range 4 {
		for i := range 32 >> class {
			// Its map has no bit, or one, of each block in turn.
			x := made(t, with(1, of(free, small(class)), 0, 1<<i))
			if span := x.h.Empty(); span != -1 {
				t.Fatal(class, i, span)
			}
			x.told(call{release, 1, 0, 0}, wrong)
		}
		x := made(t, with(2, of(free, small(class))))
		if span := x.h.Empty(); span != 1 {
			t.Fatal(class, span)
		}
		x.told(call{refill, 0, class, 0}, answer{n: 4})
		if span := x.h.Empty(); span != -1 {
			t.Fatal(class, span)
		}
		x.told(call{release, 1, 0, 0}, wrong)
		// Of nine blocks the four that came first, the span's own, are drained: it has all of its blocks in the list again.
		x.gives(0, class, 1, 5)
		x.told(call{drain, 0, class, 0}, answer{n: 4})
		if span := x.h.Empty(); span != 1 {
			t.Fatal(class, span)
		}
		x.told(call{release, 1, 0, 0}, answer{})
		x.told(call{release, 1, 0, 0}, wrong)
		x.is(x.h.List(class))
		x.is(x.h.Cache(0, class), 1, 2, 3, 4, 5)
	}
}

// Bits of a map behind the last block don't matter.
func TestP18_4BitsBehind(t *testing.T) {
	for class := range 4 {
		x := made(t, with(1, of(small(class)), left(32>>class)))
		x.told(call{release, 0, 0, 0}, answer{})
		x.is(x.h.Free())
	}
}

// One block of an empty span is in a cache, or taken, and is given back to where it counts, or where it doesn't.
func TestP18_4OneAway(t *testing.T) {
	for class := range 4 {
		x := made(t, with(2, of(small(class), free)))
		x.both(call{refill, 0, class, 0})
		at := x.both(call{take, 0, class, 0}).n
		for i := range 6 {
			x.told(call{give, 0, class, 2000 + i}, answer{})
		}
		x.told(call{drain, 0, class, 0}, answer{n: 4})
		x.told(call{release, 0, 0, 0}, wrong)
		x.both(call{give, 1, class, at})
		x.told(call{release, 0, 0, 0}, wrong)
		x.both(call{take, 1, class, 0})
		for i := range 8 {
			x.both(call{give, 1, (class + 1) % 4, []int{at, 3000 + i}[min(i, 1)]})
		}
		x.both(call{give, 1, (class + 1) % 4, 4000})
		x.told(call{drain, 1, (class + 1) % 4, 0}, answer{n: 4})
		// The block is in another class's list now.
		x.told(call{release, 0, 0, 0}, wrong)
		x.both(call{give, 1, class, at})
		x.gives(1, class, 5000, 8)
		x.told(call{drain, 1, class, 0}, answer{n: 4})
		if span := x.h.Empty(); span != 0 {
			t.Fatal(class, span)
		}
		x.told(call{release, 0, 0, 0}, answer{})
	}
}

// The least of several empty spans is told, of whatever classes they are.
func TestP18_4Least(t *testing.T) {
	x := made(t, with(1, join(of(free, small(3), small(0), small(1)), block(2), of(small(3), small(2))), 0, 1, 0, 0, 0, 0, 0, 0))
	for _, want := range []int{2, 3, 6, 7} {
		if span := x.h.Empty(); span != want {
			t.Fatalf("Empty: %d, not %d", span, want)
		}
		x.told(call{release, want, 0, 0}, answer{})
	}
	if span := x.h.Empty(); span != -1 {
		t.Error(span)
	}
}

// Each of several empty spans may be released, not only the least one, in any order.
func TestP18_4EachOrder(t *testing.T) {
	for _, class := range []int{0, 3} {
		for first := range 4 {
			for second := range 4 {
				x := made(t, with(1, slices.Repeat(of(small(class)), 4)))
				x.told(call{release, first, 0, 0}, answer{})
				want := answer{}
				if second == first {
					want = wrong
				}
				x.told(call{release, second, 0, 0}, want)
			}
		}
	}
}

// A block that is more than once in the list goes as often; what else is there stays, in its order.
func TestP18_4Twice(t *testing.T) {
	x := made(t, with(1, of(small(3), small(3), small(2)), 0, left(1), left(2)))
	at := 16 + 40 + 24
	for _, n := range []int{at + 48, 7, at, at, 8, at + 64, at + 16, at + 48, at + 128, 9, 9, 10} {
		x.both(call{give, 0, 3, n})
	}
	x.told(call{drain, 0, 3, 0}, answer{n: 4})
	x.is(x.h.List(3), at, at+16, at+32, at+48, at+64, at+48, 7, at, at)
	x.gives(0, 3, 11, 1)
	x.told(call{drain, 0, 3, 0}, answer{n: 4})
	x.told(call{release, 1, 0, 0}, wrong)
	x.told(call{release, 0, 0, 0}, answer{})
	x.is(x.h.List(3), at+64, 7, 8, at+64)
	x.is(x.h.Cache(0, 3), at+128, 9, 9, 10, 11)
	x.told(call{carve, 0, 3, 0}, answer{})
	x.is(x.h.List(3), at+64, 7, 8, at+64, at+48, at+32, at+16, at)
}

// Several times the same block isn't as much as each one once.
func TestP18_4Same(t *testing.T) {
	x := made(t, with(1, of(small(3)), left(1)))
	at := 16 + 40 + 8
	for range 12 {
		x.both(call{give, 0, 3, at})
	}
	x.both(call{drain, 0, 3, 0})
	x.told(call{release, 0, 0, 0}, wrong)
	if span := x.h.Empty(); span != -1 {
		t.Error(span)
	}
}

// Other lists, and all caches, keep blocks of a span that is released, if they have them.
func TestP18_4Others(t *testing.T) {
	for class := range 4 {
		for other := range 4 {
			if other == class {
				continue
			}
			x := made(t, with(2, of(small(class))))
			at := spanAt(x.p.g, 0)
			x.gives(0, other, at, 9)
			x.told(call{drain, 0, other, 0}, answer{n: 4})
			x.gives(1, class, at, 2)
			x.told(call{release, 0, 0, 0}, answer{})
			x.is(x.h.List(class))
			x.is(x.h.List(other), at, at+1, at+2, at+3)
			x.is(x.h.Cache(0, other), at+4, at+5, at+6, at+7, at+8)
			x.is(x.h.Cache(1, class), at, at+1)
		}
	}
}

// The blocks of another span of the class stay, those of which the addresses are near, too.
func TestP18_4Near(t *testing.T) {
	for class := range 4 {
		for span := range 3 {
			x := made(t, with(1, slices.Repeat(of(small(class)), 3)))
			x.told(call{release, span, 0, 0}, answer{})
			var want []int
			for other := range 3 {
				if other != span {
					want = append(want, blocksOf(x.p.g, other, class)...)
				}
			}
			x.is(x.h.Free(), want...)
		}
	}
	// An address within a block of the span is none of its blocks.
	x := made(t, with(1, of(small(3))))
	for n := range 12 {
		x.both(call{give, 0, 3, 64 + 1 + n})
	}
	x.told(call{drain, 0, 3, 0}, answer{n: 4})
	x.told(call{release, 0, 0, 0}, answer{})
	x.is(x.h.List(3), 65, 66, 67, 68)
}

func TestP18_4Wrong(t *testing.T) {
	for _, heads := range [][]api.Head{crowd(), every(), frees(16), frees(1), of(small(0))} {
		x := made(t, with(1, heads))
		for _, span := range wrongs(len(heads)) {
			x.told(call{release, span, 0, 0}, wrong)
		}
		for span, h := range heads {
			if h.Kind != 1 {
				x.told(call{release, span, 0, 0}, wrong)
			}
		}
	}
}

// A span that was released may be all that a free one may.
func TestP18_4Again(t *testing.T) {
	for class := range 4 {
		for next := range 4 {
			x := made(t, with(1, frees(2)))
			for range 3 {
				x.told(call{carve, 0, class, 0}, answer{})
				x.told(call{release, 0, 0, 0}, answer{})
				x.told(call{carve, 0, next, 0}, answer{})
				x.told(call{carve, 1, next, 0}, answer{})
				x.told(call{release, 0, 0, 0}, answer{})
				x.told(call{release, 1, 0, 0}, answer{})
				x.told(call{makeLarge, 0, 2, 0}, answer{})
				x.told(call{loose, 0, 0, 0}, answer{})
			}
			x.is(x.h.Free())
		}
	}
}
