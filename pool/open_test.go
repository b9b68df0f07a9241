package pool_test

import (
	"math"
	"slices"
	"testing"

	"trencher/api"
	"trencher/image"
	"trencher/mend"
	"trencher/pool"
)

// Format makes a pool of a fresh image, without any step, of each geometry that may be.
func TestP21_1Format(t *testing.T) {
	for _, g := range everyGeometry() {
		p := pool.Format(g)
		if p == nil {
			t.Fatalf("%v: none", g)
		}
		like(t, g, p, byHand(image.Fresh(g)))
		if s := p.Stats(); s != (api.Stats{Spans: g.Spans}) || p.Region().Size() != total(g) || len(p.Heap().Free()) > 0 {
			t.Fatalf("%v: %+v", g, s)
		}
		if a := p.Do(by(g.Lanes-1, get(root(g.Roots-1)))); a != told(0) {
			t.Fatalf("%v: %v", g, a)
		}
	}
}

// Of a geometry that may not be there is no pool.
func TestP21_1FormatNone(t *testing.T) {
	for _, n := range []int{0, -1, 17, 65, math.MaxInt, math.MinInt, 1 << 16, 1<<16 + 1, 1 << 32, 1<<32 + 1} {
		for _, g := range []api.Geometry{{Spans: n, Lanes: 1, Roots: 1}, {Spans: 1, Lanes: n, Roots: 1}, {Spans: 1, Lanes: 1, Roots: n}, {Spans: n, Lanes: n, Roots: n}} {
			if p := pool.Format(g); p != nil {
				t.Errorf("%v: there is one", g)
			}
		}
	}
	for _, g := range []api.Geometry{{}, {Spans: 1, Lanes: 5, Roots: 1}, {Spans: 1, Lanes: 1, Roots: 9}, {Spans: 17, Lanes: 4, Roots: 8}} {
		if p := pool.Format(g); p != nil {
			t.Errorf("%v: there is one", g)
		}
	}
}

// Two pools that were formatted, or opened, share nothing.
func TestP21_1Apart(t *testing.T) {
	words := image.Fresh(middle)
	a, b := formatted(t, middle), formatted(t, middle)
	c, d := opened(t, words, blank(middle)), opened(t, words, blank(middle))
	for i, tr := range []*trial{a, b, c, d} {
		m := &maker{tr, chance(i)}
		tr.script(m, 60)
		for _, other := range []*trial{a, b, c, d} {
			like(t, i, other.pool, other.hand)
		}
	}
}

// A fresh image is opened in as many steps as it has words, and one for each lane.
func TestP21_1OpenFresh(t *testing.T) {
	for _, g := range everyGeometry() {
		tr := opened(t, image.Fresh(g), blank(g))
		tr.right(g)
		if s := tr.pool.Stats(); s != (api.Stats{Spans: g.Spans, Steps: int64(total(g) + g.Lanes)}) {
			t.Fatalf("%v: %+v", g, s)
		}
	}
}

// isOpened checks that words are opened as layer 14 says that they are mended, or told as corrupt. It tells whether they were opened.
func isOpened(t *testing.T, what any, words []uint64) bool {
	t.Helper()
	want, code := mend.Mended(words)
	was := slices.Clone(words)
	p, got := pool.Open(words)
	if got != code || (p != nil) != (code == 0) || differ(words, was) >= 0 {
		t.Fatalf("%v: %v, %d, not %d", what, p, got, code)
	}
	if code != 0 {
		return false
	}
	if differ(p.Region().Seen(), want) >= 0 || differ(p.Region().Kept(), want) >= 0 {
		t.Fatalf("%v: not as it is mended", what)
	}
	h := byHand(words)
	h.opened(-1)
	like(t, what, p, h)
	census(t, what, p, false)
	return true
}

// What calls leave half done is opened, as what it is mended to.
func TestP21_1OpenHalfDone(t *testing.T) {
	picks := pickers()
	for seed, g := range few() {
		m := &maker{formatted(t, g), chance(seed + 20)}
		for range 12 {
			m.tr.script(m, 25)
			for range 6 {
				h := byHand(m.tr.pool.Region().Kept())
				c := m.call()
				h.run(c).All(m.next(120))
				h.region.Crash(picks[m.next(len(picks))]())
				if !isOpened(t, c, h.region.Kept()) {
					t.Fatalf("%+v: not opened", c)
				}
			}
		}
	}
}

// scene is an image with objects of several sizes, with garbage, and the objects: a large one, one that points to itself, one that two point to.
func scene(t *testing.T, g api.Geometry) *trial {
	t.Helper()
	tr := formatted(t, g)
	a := tr.makes(root(0), 7, 3)
	b := tr.makes(slot(a, 0), 5, 1) // of the same class, so that one span does
	tr.does(set(slot(b, 0), a), set(slot(a, 1), a))
	if g.Spans > 2 {
		c := tr.makes(slot(a, 2), 70, 2)
		d := tr.makes(slot(c, 0), 5, 1)
		tr.does(set(slot(c, 1), b), write(c, 67, 5), persist(c, 60, 8), write(d, 0, 4))
		tr.does(set(slot(c, 0), 0)) // d is garbage from now on
	}
	tr.does(write(a, 0, 6), persist(a, 0, 4), write(a, 1, 7))
	return tr
}

// Each bit of an image turned: it is corrupt, or a pool whose blocks are right.
func TestP21_1OpenTurned(t *testing.T) {
	words := scene(t, api.Geometry{Spans: 2, Lanes: 1, Roots: 2}).pool.Region().Seen()
	right := 0
	for a := range words {
		for bit := range 64 {
			words[a] ^= 1 << bit
			if isOpened(t, [2]int{a, bit}, words) {
				right++
			}
			words[a] ^= 1 << bit
		}
	}
	if right < 64*64 || right > 64*len(words)-64*8 {
		t.Errorf("%d of %d are opened", right, 64*len(words))
	}
}

// Words that are no region's, too many, too few, and arbitrary ones.
func TestP21_1OpenWrong(t *testing.T) {
	next := chance(5)
	for _, g := range []api.Geometry{least, middle, most} {
		words := scene(t, g).pool.Region().Seen()
		if p, code := pool.Open(words); p == nil || code != 0 {
			t.Fatalf("%v: %d", g, code)
		}
		for _, n := range []int{0, 1, 7, 8, 9, 16, len(words) / 2, len(words) - 8, len(words) - 1} {
			corrupt(t, n, words[:n])
		}
		for _, n := range []int{1, 7, 8, 16, 64, 72, 8 * 4096, 16384 - len(words), 16385 - len(words), 16392 - len(words)} {
			corrupt(t, n, append(slices.Clone(words), make([]uint64, n)...))
		}
		for a := range 8 {
			turned := slices.Clone(words)
			turned[a]++
			corrupt(t, a, turned)
		}
		for _, at := range []int{1, -1, 7, 8, spanAt(g, 0) + 1, headAt(g, 0), total(g), total(g) + 64, math.MaxInt, math.MinInt} {
			turned := slices.Clone(words)
			turned[rootAt(0)] = uint64(at)
			corrupt(t, at, turned)
		}
		for span := range g.Spans {
			turned := slices.Clone(words)
			turned[headAt(g, span)] ^= 1 << (8 + span)
			corrupt(t, span, turned)
		}
		for range 30 {
			arbitrary := slices.Clone(words)
			for a := range arbitrary[8:] {
				arbitrary[8+a] = uint64(next(1<<62))<<2 | uint64(next(4))
			}
			corrupt(t, "arbitrary words behind a superblock", arbitrary)
			arbitrary[2]++
			corrupt(t, "arbitrary words", arbitrary)
		}
	}
	corrupt(t, "none", nil)
	corrupt(t, "zeros", make([]uint64, 128))
	corrupt(t, "many zeros", make([]uint64, 16384))
	corrupt(t, "too many", make([]uint64, 1<<20))
}

// corrupt checks that there is no pool of words.
func corrupt(t *testing.T, what any, words []uint64) {
	t.Helper()
	if p, code := pool.Open(words); p != nil || code != api.ErrCorrupt {
		t.Fatalf("%v: %v, %d", what, p, code)
	}
}

// Arbitrary words in an image's roots, maps, first words and slots: corrupt, or a pool whose blocks are right.
func TestP21_1OpenScrambled(t *testing.T) {
	right := 0
	for seed, g := range []api.Geometry{least, {Spans: 3, Lanes: 2, Roots: 3}, middle} {
		base := scene(t, g).pool.Region().Seen()
		next := chance(seed + 60)
		for range 400 {
			words := slices.Clone(base)
			for range 1 + next(3) {
				a := []int{rootAt(next(g.Roots)), headAt(g, next(g.Spans)) + 1, headAt(g, next(g.Spans)), spanAt(g, 0) + next(64*g.Spans)}[next(4)]
				words[a] = []uint64{uint64(spanAt(g, 0) + next(64*g.Spans)), uint64(next(1 << 16)), words[spanAt(g, 0)+next(64*g.Spans)], math.MaxUint64, 0}[next(5)]
			}
			if isOpened(t, words[8:9], words) {
				right++
			}
		}
	}
	if right < 200 || right > 1100 {
		t.Errorf("%d are opened", right)
	}
}

// A pool shares no memory with the words that it was opened from, nor with what it tells.
func TestP21_1OpenMemory(t *testing.T) {
	tr := scene(t, middle)
	words := tr.pool.Region().Seen()
	room := append(slices.Clone(words), 1, 2, 3, 4, 5, 6, 7, 8)
	handed := room[:len(words)]
	p := opened(t, handed, tr.plain)
	was := slices.Clone(room)
	m := &maker{p, chance(9)}
	p.script(m, 100)
	p.fails(pickers()[1])
	if differ(room, was) >= 0 {
		t.Error("the words, or the room behind them, were turned")
	}
	for i := range room {
		room[i] = 77
	}
	for _, l := range [][]uint64{p.pool.Region().Seen(), p.pool.Region().Kept()} {
		for i := range l {
			l[i] = 78
		}
	}
	for _, l := range [][]int{p.pool.Heap().Free(), p.pool.Heap().List(1)} {
		for i := range l {
			l[i] = 79
		}
	}
	like(t, "memory", p.pool, p.hand)
	p.script(m, 40)
	q, code := pool.Open(was[:len(words)])
	if code != 0 || q.Region() == p.pool.Region() {
		t.Error(code)
	}
	like(t, "another", q, func() *hand { h := byHand(words); h.opened(-1); return h }())
}

// All that was opened is kept, and no line is pending.
func TestP21_1OpenKept(t *testing.T) {
	tr := scene(t, middle)
	p, _ := pool.Open(tr.pool.Region().Seen())
	kept := p.Region().Kept()
	if differ(kept, p.Region().Seen()) >= 0 {
		t.Error("not all is kept")
	}
	if p.Region().Fence(); differ(p.Region().Kept(), kept) >= 0 {
		t.Error("a line was pending")
	}
}
