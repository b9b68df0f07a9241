package open_test

import (
	"math"
	"testing"

	"trencher/api"
	"trencher/env"
	"trencher/image"
	"trencher/locks"
	"trencher/open"
	"trencher/pmem"
)

// Ten for each word, and 100; of a size below 0: 100.
func TestP20_2Bound(t *testing.T) {
	for size, want := range map[int]int{
		0: 100, 1: 110, 2: 120, 7: 170, 8: 180, 10: 200, 127: 1370, 128: 1380, 129: 1390, 1328: 13380, 16383: 163930, 16384: 163940, 16385: 163950,
		-1: 100, -2: 100, -8: 100, -10: 100, -11: 100, -16384: 100, math.MinInt32: 100, math.MinInt: 100, math.MinInt + 1: 100,
		1<<31 - 1: 21474836570, 1 << 31: 21474836580, 1 << 32: 42949673060, 1 << 40: 10995116277860,
	} {
		if got := open.Bound(size); got != want {
			t.Errorf("%d: %d, not %d", size, got, want)
		}
	}
	for _, g := range everyGeometry() {
		if got := open.Bound(total(g)); got != 10*total(g)+100 {
			t.Errorf("%v: %d", g, got)
		}
	}
}

// Up to the greatest size of which that is a number it is that; beyond, no less.
func TestP20_2BoundGreat(t *testing.T) {
	last := (math.MaxInt - 100) / 10
	for size := last - 3; size <= last; size++ {
		if got := open.Bound(size); got != 10*size+100 {
			t.Errorf("%d: %d", size, got)
		}
	}
	for _, size := range []int{last + 1, last + 2, math.MaxInt / 10, math.MaxInt/10 + 1, math.MaxInt / 5, math.MaxInt / 2, 1 << 62, math.MaxInt - 1, math.MaxInt} {
		if got := open.Bound(size); got < open.Bound(last) {
			t.Errorf("%d: %d", size, got)
		}
	}
}

// greedy is a picture that takes many steps: objects of one word in all blocks of all spans, each with a Refs that isn't right, maps with too many bits, and a log of as many lines as there may be in each lane.
func greedy(g api.Geometry) picture {
	p := drawn(g.Lanes, g.Roots, times(g.Spans, small(0)))
	many := 32 * g.Spans
	for i := range many {
		p.lay(i/32, i%32, 1, 1, p.at((i+1)/32%g.Spans, (i+1)%32))
	}
	for span := range g.Spans {
		p.words[mapAt(g, span)] = full
	}
	for n := range g.Lanes {
		log := []api.Entry{{At: rootAt(0), X: uint64(p.at(0, n))}}
		for i := range 15 {
			at := p.at(i%g.Spans, (i/g.Spans*4+n)%32)
			log = append(log, api.Entry{At: at, X: p.words[at]})
		}
		written(p.words, n, log...)
	}
	return p
}

// Regions that take many steps are opened within so many, of all geometries that may be.
func TestP20_2Enough(t *testing.T) {
	for _, g := range everyGeometry() {
		for _, p := range []picture{greedy(g), {g, nil, image.Fresh(g)}} {
			r := pmem.Of(p.words)
			x := env.New(r, locks.New(1), 0, open.Deed(r.Size()))
			if code := x.All(open.Bound(r.Size())); code != api.OK {
				t.Fatalf("%v: %d", g, code)
			}
			told(t, g, x, api.OK)
			if code := opens(t, g, p.words); code != api.OK {
				t.Fatalf("%v: %d", g, code)
			}
		}
	}
}

// Of a region of so many words that can't be opened it is enough, too, whatever the size.
func TestP20_2EnoughCorrupt(t *testing.T) {
	for _, size := range []int{math.MinInt, -128, -1, 0, 1, 2, 8, 127, 128, 129, 1328, 16384, 16385, 40000} {
		for _, words := range [][]uint64{image.Fresh(least), image.Fresh(most), make([]uint64, 8)} {
			if size == len(words) && size > 8 {
				continue
			}
			r := pmem.Of(words)
			x := env.New(r, locks.New(1), 0, open.Deed(size))
			if code := x.All(open.Bound(size)); code != api.OK || x.Steps() > open.Bound(size) {
				t.Fatalf("%d: %d, %d steps", size, code, x.Steps())
			}
			told(t, size, x, api.ErrCorrupt)
		}
	}
}
