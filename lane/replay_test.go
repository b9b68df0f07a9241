package lane_test

import (
	"math"
	"slices"
	"testing"

	"trencher/api"
	"trencher/env"
	"trencher/image"
	"trencher/lane"
	"trencher/locks"
	"trencher/pmem"
)

// replays holds what a Replay does to a region of these words against what it should.
func replays(t *testing.T, what any, g api.Geometry, words []uint64) {
	t.Helper()
	steps, many, behind := plainReplay(g, words)
	r, x := begun(words, replay(g), -1)
	if !slices.Equal(x.Answer(), []uint64{uint64(many)}) || x.Steps() != len(steps) || r.Steps() != int64(len(steps)) {
		t.Fatalf("%v: %v, %d steps, not %d, %d", what, x.Answer(), x.Steps(), many, len(steps))
	}
	if a := differ(r.Seen(), behind); a >= 0 {
		t.Fatalf("%v: programs see %x at %d, not %x", what, r.Seen()[a], a, behind[a])
	}
	if a := differ(r.Kept(), behind); a >= 0 {
		t.Fatalf("%v: %x is kept at %d, not %x", what, r.Kept()[a], a, behind[a])
	}
	if want, code := image.Replayed(words); code == api.OK && !slices.Equal(want, behind) {
		t.Fatalf("%v: replayed it is other at %d", what, differ(want, behind))
	}
	r, x = begun(words, replay(g), len(steps)/2)
	if x.Over() && len(steps) > 0 {
		t.Fatalf("%v: over behind %d steps", what, len(steps)/2)
	}
	for range len(steps) - len(steps)/2 {
		if x.Step() != env.Stepped {
			t.Fatalf("%v: no step behind %d", what, x.Steps())
		}
	}
	if !x.Over() || differ(r.Kept(), behind) >= 0 || differ(r.Seen(), behind) >= 0 {
		t.Fatalf("%v: step by step it is other at %d", what, differ(r.Kept(), behind))
	}
}

// state lays something into a lane of the words.
type state struct {
	name string
	lay  func(g api.Geometry, words []uint64, n int)
}

// log of a lane, other ones of each.
func logOf(g api.Geometry, n int) []api.Entry {
	return spread(g, 1+(n*5+3)%16, 3*n, 1+n)
}

// resealed lays words into a lane, and their seal.
func resealed(words []uint64, n int, l []uint64) {
	copy(words[entryAt(n, 0):], l)
	words[laneAt(n)] = seal(l)
}

// wrongEntry lays a log, one of whose entries may not be written, into a lane.
func wrongEntry(i, at int) func(api.Geometry, []uint64, int) {
	return func(g api.Geometry, words []uint64, n int) {
		l := append(logOf(g, n), spread(g, 3, 1, 2)...)[:4]
		l[i] = api.Entry{At: at, X: 99}
		written(words, n, l)
	}
}

// turned lays a log, of which a bit of a word was turned behind its sealing, into a lane.
func turned(word, bit int) func(api.Geometry, []uint64, int) {
	return func(g api.Geometry, words []uint64, n int) {
		written(words, n, logOf(g, n))
		words[laneAt(n)+word] ^= 1 << bit
	}
}

// states are what lanes may have: those without a seal, those whose log counts, those that don't count, those that aren't applied.
func states() []state {
	return []state{
		{"nothing", func(api.Geometry, []uint64, int) {}},
		{"a log without a seal", func(g api.Geometry, words []uint64, n int) {
			written(words, n, logOf(g, n))
			words[laneAt(n)] = 0
		}},
		{"a log", func(g api.Geometry, words []uint64, n int) { written(words, n, logOf(g, n)) }},
		{"one entry", func(g api.Geometry, words []uint64, n int) { written(words, n, spread(g, 1, n, 1)) }},
		{"the longest log", func(g api.Geometry, words []uint64, n int) { written(words, n, reversed(spread(g, 16, n, 3))) }},
		{"one address", func(g api.Geometry, words []uint64, n int) { written(words, n, spread(g, 7, 2, 0)) }},
		{"the edges", func(g api.Geometry, words []uint64, n int) {
			l := spread(g, 13, 0, 1)
			for i, at := range edges(g) {
				l[i].At = at
			}
			written(words, n, l)
		}},
		{"a seal of nothing", func(g api.Geometry, words []uint64, n int) { words[laneAt(n)] = seal(nil) }},
		{"1", func(g api.Geometry, words []uint64, n int) { words[laneAt(n)] = 1 }},
		{"all bits", func(g api.Geometry, words []uint64, n int) { words[laneAt(n)] = full }},
		{"a bit of the seal", turned(0, 0)},
		{"the seal's first bit", turned(0, 63)},
		{"how many the seal is of", turned(0, 33)},
		{"a bit of an address", turned(8, 3)},
		{"a bit of a word", turned(9, 60)},
		{"another one's seal", func(g api.Geometry, words []uint64, n int) {
			written(words, n, logOf(g, n))
			words[laneAt(n)] = seal(logWords(spread(g, 2, n, 3)))
		}},
		{"half a log", func(g api.Geometry, words []uint64, n int) {
			l := logWords(spread(g, 8, n, 3))
			copy(words[entryAt(n, 0):], l[:8])
			words[laneAt(n)] = seal(l)
		}},
		{"half an entry", func(g api.Geometry, words []uint64, n int) { resealed(words, n, logWords(spread(g, 2, n, 3))[:3]) }},
		{"other places", func(g api.Geometry, words []uint64, n int) { resealed(words, n, logWords(spread(g, 3, n, 3))[2:]) }},
		{"an address that no region has", func(g api.Geometry, words []uint64, n int) {
			resealed(words, n, []uint64{8, 5, 16384 + 1<<32, 6})
		}},
		{"more entries than may be", func(g api.Geometry, words []uint64, n int) { words[laneAt(n)] = seal(make([]uint64, 34)) }},
		{"the superblock", wrongEntry(0, 0)},
		{"no root", wrongEntry(3, 7)},
		{"the own seal", func(g api.Geometry, words []uint64, n int) { wrongEntry(2, laneAt(n))(g, words, n) }},
		{"the first lane's seal", wrongEntry(0, 16)},
		{"the last lane's words", func(g api.Geometry, words []uint64, n int) { wrongEntry(3, headAt(g, 0)-1)(g, words, n) }},
		{"a head's third word", func(g api.Geometry, words []uint64, n int) { wrongEntry(1, headAt(g, 0)+2)(g, words, n) }},
		{"behind the region", func(g api.Geometry, words []uint64, n int) { wrongEntry(3, total(g))(g, words, n) }},
		{"far behind the region", wrongEntry(0, 16383)},
	}
}

// Each state of each lane, alone and with logs that count in all others.
func TestP17_3States(t *testing.T) {
	for _, g := range few() {
		for n := range g.Lanes {
			for _, s := range states() {
				words := busy(g)
				s.lay(g, words, n)
				replays(t, []any{g, n, s.name}, g, words)
				words = busy(g)
				for other := range g.Lanes {
					written(words, other, logOf(g, other))
				}
				words[laneAt(n)] = 0
				s.lay(g, words, n)
				replays(t, []any{g, n, s.name, "among logs"}, g, words)
			}
		}
	}
}

// Each two states of two lanes, and rows of them of four lanes.
func TestP17_3StatesTogether(t *testing.T) {
	all := states()
	for _, a := range all {
		for _, b := range all {
			words := busy(middle)
			a.lay(middle, words, 0)
			b.lay(middle, words, 1)
			replays(t, []any{a.name, b.name}, middle, words)
		}
	}
	g := api.Geometry{Spans: 1, Lanes: 4, Roots: 3}
	below := chance(5)
	for range 700 {
		words := busy(g)
		var names []string
		for n := range 4 {
			s := all[below(len(all))]
			s.lay(g, words, n)
			names = append(names, s.name)
		}
		replays(t, names, g, words)
	}
}

// Each step, one by one.
func TestP17_3Steps(t *testing.T) {
	for _, g := range []api.Geometry{least, middle, {Spans: 1, Lanes: 4, Roots: 1}} {
		for i, s := range states() {
			for n := range g.Lanes {
				words := busy(g)
				for other := range g.Lanes {
					if other != n {
						states()[(i+other)%len(states())].lay(g, words, other)
					}
				}
				s.lay(g, words, n)
				want, _, _ := plainReplay(g, words)
				stepsAre(t, []any{g, n, s.name}, words, replay(g), want)
			}
		}
	}
}

// Of a lane without a seal that alone is loaded; of another one all words of its entries, one behind the other.
func TestP17_3HowMany(t *testing.T) {
	for _, g := range few() {
		words := fresh(g)
		replays(t, g, g, words)
		if _, x := begun(words, replay(g), -1); x.Steps() != g.Lanes {
			t.Fatalf("%v: %d steps", g, x.Steps())
		}
		words[laneAt(g.Lanes-1)] = 1
		if _, x := begun(words, replay(g), -1); x.Steps() != g.Lanes+32+3 {
			t.Fatalf("%v: %d steps", g, x.Steps())
		}
		for n := range g.Lanes {
			written(words, n, spread(g, 16, 1, 1))
		}
		replays(t, g, g, words)
	}
}

// Which word each load is of: if that alone is another one while it is loaded, the longest log doesn't count.
func TestP17_3Loads(t *testing.T) {
	for _, c := range []struct {
		g api.Geometry
		n int
	}{{least, 0}, {middle, 1}} {
		words := busy(c.g)
		written(words, c.n, spread(c.g, 16, 0, 1))
		for done := range 33 {
			want := laneAt(c.n)
			if done > 0 {
				want = entryAt(c.n, 0) + done - 1
			}
			for a := laneAt(c.n); a < laneAt(c.n)+40; a++ {
				r, x := begun(words, replay(c.g), c.n+done)
				r.Store(a, words[a]^4)
				x.Step()
				r.Store(a, words[a])
				x.All(-1)
				if counted := x.Answer()[0] == 1; counted == (a == want) {
					t.Fatalf("%v: load %d with %d turned: %v", c.g, done, a, x.Answer())
				}
			}
		}
	}
}

// The lanes are gone through in order: of one address the last lane's word is what stands there, whichever of them count.
func TestP17_3Order(t *testing.T) {
	for _, g := range few() {
		for _, at := range edges(g) {
			for which := range 1 << g.Lanes {
				words := busy(g)
				want, many := words[at], uint64(0)
				for n := range g.Lanes {
					l := []api.Entry{{At: at, X: uint64(n)*10 + 1}, {At: at, X: uint64(n)*10 + 2}}
					written(words, n, l)
					if which>>n&1 == 0 {
						words[entryAt(n, 1)+1]++
						continue
					}
					want, many = l[1].X, many+1
				}
				r, x := begun(words, replay(g), -1)
				if r.Kept()[at] != want || x.Answer()[0] != many {
					t.Fatalf("%v, %d, %b: %d, not %d, %v", g, at, which, r.Kept()[at], want, x.Answer())
				}
				replays(t, []any{g, at, which}, g, words)
			}
		}
	}
}

// Each address that may not be written keeps its log, whole, from being applied, wherever in the log it stands; and the lane is retired.
func TestP17_3NoAddress(t *testing.T) {
	for _, g := range few() {
		for i, at := range unwritable(g) {
			if at < 0 || at >= 16384 {
				continue
			}
			for _, many := range []int{1, 2, 16} {
				l := spread(g, many, i, 3)
				l[i*7%many].At = at
				words, n := busy(g), i%g.Lanes
				written(words, n, l)
				if g.Lanes > 1 {
					written(words, (n+1)%g.Lanes, spread(g, 3, i, 5))
				}
				r, x := begun(words, replay(g), -1)
				if x.Answer()[0] != uint64(min(g.Lanes, 2))-1 || r.Kept()[laneAt(n)] != 0 {
					t.Fatalf("%v, %d: %v, %x", g, at, x.Answer(), r.Kept()[laneAt(n)])
				}
				replays(t, []any{g, at, many}, g, words)
			}
		}
	}
}

// Each address that may be written, alone and as the last one of the longest log.
func TestP17_3EachAddress(t *testing.T) {
	for _, g := range []api.Geometry{least, {Spans: 2, Lanes: 4, Roots: 8}} {
		for i, at := range writable(g) {
			for _, many := range []int{1, 16} {
				l := spread(g, many, i, 3)
				l[many-1] = api.Entry{At: at, X: 77}
				words := busy(g)
				written(words, i%g.Lanes, l)
				r, x := begun(words, replay(g), -1)
				if r.Kept()[at] != 77 || x.Answer()[0] != 1 {
					t.Fatalf("%v, %d: %d, %v", g, at, r.Kept()[at], x.Answer())
				}
				replays(t, []any{g, at}, g, words)
			}
		}
	}
}

// With a bit turned, of its seal or its words, no log is applied, and its lane is retired; with one turned behind its words it is applied.
func TestP17_3EachBit(t *testing.T) {
	g := api.Geometry{Spans: 2, Lanes: 2, Roots: 3}
	for _, many := range []int{1, 3, 16} {
		l := spread(g, many, 3, 5)
		for word := range 40 {
			for bit := range 64 {
				words := busy(g)
				written(words, 1, l)
				words[laneAt(1)+word] ^= 1 << bit
				r, x := begun(words, replay(g), -1)
				in := word == 0 || word >= 8 && word < 8+2*many
				if (x.Answer()[0] == 0) != in || r.Kept()[laneAt(1)] != 0 || (differ(besideLanes(g, r.Kept()), besideLanes(g, words)) < 0) != in {
					t.Fatalf("%d entries, word %d, bit %d: %v", many, word, bit, x.Answer())
				}
			}
		}
	}
}

// A Replay behind a Replay applies nothing, stores nothing, and loads the seals alone.
func TestP17_3Twice(t *testing.T) {
	for _, g := range few() {
		for _, s := range states() {
			words := busy(g)
			for n := range g.Lanes {
				s.lay(g, words, n)
			}
			_, many, behind := plainReplay(g, words)
			r, x := begun(words, func(e *env.Env) []uint64 {
				return []uint64{uint64(lane.Replay(e, g)), uint64(lane.Replay(e, g))}
			}, -1)
			if !slices.Equal(x.Answer(), []uint64{uint64(many), 0}) || differ(r.Kept(), behind) >= 0 || differ(r.Seen(), behind) >= 0 {
				t.Fatalf("%v, %s: %v", g, s.name, x.Answer())
			}
			again := env.New(r, locks.New(1), 0, replay(g))
			steps := r.Steps()
			if again.All(g.Lanes) != api.OK || r.Steps() != steps+int64(g.Lanes) || again.Answer()[0] != 0 || differ(r.Kept(), behind) >= 0 {
				t.Fatalf("%v, %s: %v, %d steps", g, s.name, again.Answer(), again.Steps())
			}
		}
	}
}

// It turns words that programs see and that aren't kept yet: what it loads is what they see.
func TestP17_3Seen(t *testing.T) {
	g := middle
	l := spread(g, 4, 2, 9)
	words := fresh(g)
	r := pmem.Of(words)
	written(words, 1, l)
	for a, x := range words {
		r.Store(a, x)
	}
	x := env.New(r, locks.New(1), 0, replay(g))
	if x.All(-1) != api.OK || x.Answer()[0] != 1 {
		t.Fatal(x.Answer())
	}
	r.Crash(picks(0)[0]())
	for _, s := range l {
		if y, _ := r.Load(s.At); y != s.X {
			t.Error(s, y)
		}
	}
}

// Of a geometry that may not be nothing is done.
func TestP17_3NoGeometry(t *testing.T) {
	for _, g := range noGeometries() {
		words := busy(most)
		for n := range 4 {
			written(words, n, []api.Entry{{At: 8, X: 5}})
		}
		r, x := begun(words, replay(g), 0)
		if !x.Over() || !slices.Equal(x.Answer(), []uint64{0}) || r.Steps() != 0 || differ(r.Seen(), words) >= 0 {
			t.Fatalf("%v: %v, %d steps", g, x.Answer(), r.Steps())
		}
	}
}

// Of a region that isn't the geometry's, or is none, it ends; no word that isn't there is told as a lane's.
func TestP17_3OtherRegion(t *testing.T) {
	for _, g := range few() {
		for _, h := range few() {
			words := busy(h)
			for n := range h.Lanes {
				written(words, n, logOf(h, n))
			}
			r, x := begun(words, replay(g), -1)
			if !x.Over() || x.Answer()[0] > uint64(g.Lanes) || r.Size() != total(h) {
				t.Fatalf("%v, %v: %v", g, h, x.Answer())
			}
		}
		for _, size := range []int{8, 16, 24, 40} {
			r, x := begun(mixed(size, 3), replay(g), -1)
			if !x.Over() || x.Answer()[0] != 0 || size <= 16 && r.Steps() != 0 {
				t.Fatalf("%v, %d: %v", g, size, x.Answer())
			}
		}
		x := env.New(nil, nil, 0, replay(g))
		if x.All(-1) != api.OK || x.Answer()[0] != 0 || x.Steps() != g.Lanes {
			t.Fatalf("%v: %v, %d steps", g, x.Answer(), x.Steps())
		}
	}
}

// Whatever words there are, no lane is applied that wasn't sealed, and all are retired.
func TestP17_3AnyWords(t *testing.T) {
	for _, g := range few() {
		for seed := range uint64(50) {
			words := mixed(total(g), seed+seed*uint64(math.MaxUint32))
			r, x := begun(words, replay(g), -1)
			if x.Answer()[0] != 0 || differ(besideLanes(g, r.Kept()), besideLanes(g, words)) >= 0 {
				t.Fatalf("%v, %d: %v", g, seed, x.Answer())
			}
			for n := range g.Lanes {
				if r.Kept()[laneAt(n)] != 0 {
					t.Fatalf("%v, %d: %x", g, seed, r.Kept()[laneAt(n)])
				}
			}
		}
	}
}

// A log that goes through, and is told to go through anew, as a Replay finds it behind each of its steps.
func TestP17_3BehindEachStep(t *testing.T) {
	for _, g := range few() {
		for _, l := range some(g) {
			n := g.Lanes - 1
			for fuse := range lane.Cost(l) + 1 {
				r, _ := begun(busy(g), through(g, n, l), fuse)
				replays(t, []any{g, l, fuse, "seen"}, g, r.Seen())
				replays(t, []any{g, l, fuse, "kept"}, g, r.Kept())
			}
		}
	}
}
