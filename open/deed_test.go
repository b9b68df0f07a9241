package open_test

import (
	"slices"
	"testing"

	"trencher/api"
	"trencher/env"
	"trencher/image"
	"trencher/locks"
	"trencher/mend"
	"trencher/open"
	"trencher/pmem"
)

// A fresh region is opened in as many steps as it has words, and one for each lane. Of all geometries that may be.
func TestP20_1Fresh(t *testing.T) {
	for _, g := range everyGeometry() {
		words := image.Fresh(g)
		r := pmem.Of(words)
		x := env.New(r, locks.New(api.Locks), 0, open.Deed(r.Size()))
		if code := x.All(-1); code != api.OK || x.Steps() != total(g)+g.Lanes || r.Steps() != int64(x.Steps()) {
			t.Fatalf("%v: %d, %d steps", g, code, x.Steps())
		}
		told(t, g, x, api.OK)
		settled(t, g, r, words)
		becomes(t, g, words, words)
	}
}

func TestP20_1Scene(t *testing.T) {
	p := scene()
	becomes(t, "scene", p.words, sound().words)
	// Its words, a load for each lane, and twelve fixes in ten lines.
	if x := begun(pmem.Of(p.words), len(p.words), -1); x.Steps() != total(p.g)+2+12+10+1 {
		t.Error(x.Steps())
	}
}

// Each step, one by one: of fresh regions, of such with a fix, with many, and with logs.
func TestP20_1Steps(t *testing.T) {
	for _, g := range []api.Geometry{least, middle} {
		stepsAre(t, g, image.Fresh(g), 0)
	}
	p := scene()
	stepsAre(t, "scene", p.words, total(p.g)-3)
	stepsAre(t, "sound", sound().words, total(p.g)-3)
	written(p.words, 1, api.Entry{At: rootAt(1), X: p.words[rootAt(2)]}, api.Entry{At: rootAt(0), X: 0}, api.Entry{At: p.at(5, 1) + 1, X: 0}, api.Entry{At: p.at(5, 1) + 2, X: 0})
	p.words[laneAt(0)] = 77
	stepsAre(t, "with lanes", p.words, total(p.g)-3)
	q := drawn(1, 2, of(small(2)))
	q.roots(q.lay(0, 7, 6, 2))
	stepsAre(t, "small", q.words, 0)
	written(q.words, 0, api.Entry{At: rootAt(1), X: uint64(q.at(0, 7))})
	stepsAre(t, "small, with a log", q.words, 0)
	for i, heads := range layouts() {
		for _, p := range []picture{crowded(i, heads), logged(i, crowded(i, heads)), spoiled(i, crowded(i, heads))} {
			if len(heads) < 6 {
				stepsAre(t, heads, p.words, total(p.g)-1)
			}
		}
	}
	big := logged(3, crowded(40, layouts()[0]))
	if _, code := mend.Mended(big.words); code != api.OK {
		t.Fatal(code)
	}
	stepsAre(t, "big", big.words, total(big.g)-1)
}

// The geometries at the edges, with as many objects as there may be, of the least words, and with a log in each lane.
func TestP20_1Edges(t *testing.T) {
	for _, g := range few() {
		p := drawn(g.Lanes, g.Roots, times(g.Spans, small(0)))
		for i := range 32 * g.Spans {
			to := p.at((i+1)/32%g.Spans, (i+1)%32)
			p.lay(i/32, i%32, 1, 1, to)
		}
		for n := range g.Lanes {
			last := p.at(g.Spans-1, 31-n)
			written(p.words, n, api.Entry{At: rootAt(g.Roots - 1), X: uint64(last)}, api.Entry{At: last, X: firstWord(7, 1, 1)})
		}
		want := slices.Clone(p.words)
		for i := range 32 * g.Spans {
			want[p.at(i/32, i%32)] = firstWord(1, 1, 1)
		}
		first := p.at(g.Spans-1, 32-g.Lanes)
		want[first] = firstWord(2, 1, 1)
		want[rootAt(g.Roots-1)] = uint64(first)
		for n := range g.Lanes {
			want[laneAt(n)] = 0
		}
		becomes(t, g, p.words, want)
	}
}

// A region that needs no fix: nothing but loads, and what lanes need.
func TestP20_1NoFix(t *testing.T) {
	p := sound()
	want, code := plainOpen(p.words)
	if code != api.OK || !slices.Equal(want, loads(total(p.g)+2)) {
		t.Fatal(code, len(want))
	}
	becomes(t, "sound", p.words, p.words)
	// A log that leaves all as it is: its stores, its retiring, and no more.
	written(p.words, 1, api.Entry{At: rootAt(1), X: 0})
	want, code = plainOpen(p.words)
	if code != api.OK || len(want) != total(p.g)+1+33+3+3 {
		t.Fatal(code, len(want))
	}
	becomes(t, "with a log", p.words, with(p.words, api.Entry{At: laneAt(1), X: 0}))
	for i, heads := range layouts() {
		words, code := mend.Mended(crowded(i, heads).words)
		if code != api.OK {
			t.Fatal(heads, code)
		}
		becomes(t, heads, words, words)
	}
}

// Just one fix, of each kind: a head, a map with one bit too many, with all bits, Refs that are too few and too many; it is one store, one flush, one fence.
func TestP20_1OneFix(t *testing.T) {
	p := sound()
	var l []api.Entry
	for _, span := range []int{1, 6, 7} {
		for _, h := range every()[1:] {
			l = append(l, api.Entry{At: headAt(p.g, span), X: headWord(h)})
		}
		l = append(l, api.Entry{At: mapAt(p.g, span), X: 1}, api.Entry{At: mapAt(p.g, span), X: full})
	}
	for _, span := range []int{0, 2, 3, 4, 5} {
		for _, bit := range []int{2, 7, 63} {
			l = append(l, api.Entry{At: mapAt(p.g, span), X: p.words[mapAt(p.g, span)] | 1<<bit})
		}
		l = append(l, api.Entry{At: mapAt(p.g, span), X: full})
	}
	for _, fix := range sceneFixes()[7:] {
		for _, refs := range []uint64{0, 3, 5, 255, 256, 65534, 65535} {
			l = append(l, api.Entry{At: fix.At, X: fix.X/65536*65536 + refs})
		}
	}
	for _, e := range l {
		words := with(p.words, e)
		becomes(t, e, words, p.words)
		x := begun(pmem.Of(words), len(words), -1)
		if x.Steps() != total(p.g)+2+3 {
			t.Fatalf("%v: %d steps", e, x.Steps())
		}
		if e.X%7 == 0 {
			stepsAre(t, e, words, total(p.g)+1)
		}
	}
}

// Two and more fixes: all parts of a scene's, in one line and in several.
func TestP20_1SomeFixes(t *testing.T) {
	p := scene()
	fixes := sceneFixes()
	for which := range 1 << len(fixes) {
		if which%3 == 0 && which > 100 && which < 4000 {
			continue
		}
		var done []api.Entry
		for i, fix := range fixes {
			if which>>i&1 == 1 {
				done = append(done, fix)
			}
		}
		becomes(t, done, with(p.words, done...), sound().words)
	}
}

// Fixes in one line: a head's word and its map; and Refs of objects that stand beside one another. Their line is flushed once.
func TestP20_1OneLine(t *testing.T) {
	p := drawn(1, 4, of(small(0), small(1)))
	p.words[mapAt(p.g, 1)] = 5
	for i := range 4 {
		p.words[rootAt(i)] = uint64(p.lay(0, 8+i, 1, 0))
	}
	want := slices.Clone(p.words)
	want[headAt(p.g, 1)], want[mapAt(p.g, 1)] = 0, 0
	for i := range 4 {
		want[p.at(0, 8+i)] = firstWord(1, 0, 1)
	}
	becomes(t, "one line each", p.words, want)
	if x := begun(pmem.Of(p.words), len(p.words), -1); x.Steps() != total(p.g)+1+6+2+1 {
		t.Error(x.Steps())
	}
	stepsAre(t, "one line each", p.words, total(p.g)-1)
}

// Objects of each size that there may be, and so of each class: alone, by the last root, beside garbage of the same class.
func TestP20_1EachSize(t *testing.T) {
	for words := 1; words <= 255; words++ {
		heads, index := of(free, small(0), small(0)), 3
		switch {
		case words > 15:
			heads, index = join(of(free), block(words/64+1), block(words/64+1)), 0
		case words > 7:
			heads = of(free, small(3), small(3))
		case words > 3:
			heads = of(free, small(2), small(2))
		case words > 1:
			heads = of(free, small(1), small(1))
		}
		for _, slots := range []int{0, 1, words / 2, words} {
			p := drawn(1+words%4, 1+words%8, heads)
			behind := len(heads)/2 + 1
			p.words[rootAt(p.g.Roots-1)] = uint64(p.lay(1, index, words, slots))
			p.lay(behind, index, words, 1, p.at(1, index))
			want := with(p.words, api.Entry{At: p.at(1, index), X: firstWord(1, slots, words)}, api.Entry{At: mapAt(p.g, behind), X: 0})
			for span := behind; span < len(heads); span++ {
				want[headAt(p.g, span)] = 0
			}
			becomes(t, words, p.words, want)
		}
	}
}

// Crowded pictures, with objects of all classes, garbage, maps with more bits, lanes that count and lanes that don't; and such with wrong words here and there.
func TestP20_1Crowds(t *testing.T) {
	can, cannot := 0, 0
	for i, heads := range layouts() {
		for k := range 12 {
			p := crowded(i*1000+k, heads)
			for j, p := range []picture{p, spoiled(k, p), logged(k, p), logged(k+50, spoiled(k, p)), wronged(k, p), logged(k, wronged(k+50, p))} {
				code := opens(t, []any{i, k, j}, p.words)
				if j < 4 && code != api.OK {
					t.Fatalf("%d, %d, %d: %d", i, k, j, code)
				}
				if code == api.OK {
					can++
				} else {
					cannot++
				}
			}
		}
	}
	if can < 1500 || cannot < 100 {
		t.Error(can, cannot)
	}
}

// Maps with a bit too many: each bit of each map alone. With a bit too few of what is reached the region is corrupt.
func TestP20_1EachBit(t *testing.T) {
	p := sound()
	for span := range p.g.Spans {
		for bit := range 64 {
			words := with(p.words, api.Entry{At: mapAt(p.g, span), X: p.words[mapAt(p.g, span)] ^ 1<<bit})
			if p.words[mapAt(p.g, span)]>>bit&1 == 1 {
				corrupt(t, []int{span, bit}, words)
				continue
			}
			becomes(t, []int{span, bit}, words, p.words)
		}
	}
}

// Garbage that may be anything is left as it is, but for its bits; so are data.
func TestP20_1LeftAlone(t *testing.T) {
	p := sound()
	for _, b := range []place{{0, 1}, {0, 3}, {0, 14}, {4, 0}, {5, 0}, {5, 3}} {
		for a := p.at(b.span, b.index); a < p.at(b.span, b.index+1); a++ {
			for _, x := range []uint64{0, 1, full, firstWord(9, 1, 2), uint64(p.at(0, 0))} {
				words := with(p.words, api.Entry{At: a, X: x}, api.Entry{At: mapAt(p.g, b.span), X: p.words[mapAt(p.g, b.span)] | 1<<b.index})
				becomes(t, []any{b, a}, words, with(p.words, api.Entry{At: a, X: x}))
			}
		}
	}
	for a := p.at(2, 0) + 4; a < p.at(2, 0)+128; a++ {
		words := with(p.words, api.Entry{At: a, X: uint64(a)})
		becomes(t, a, words, words)
	}
}

// Logs in some lanes, in all, and in none: each turns a root of its own, and an object.
func TestP20_1EachLane(t *testing.T) {
	for lanes := 1; lanes <= 4; lanes++ {
		for which := range 1 << lanes {
			p := drawn(lanes, 4, times(5, free))
			want := slices.Clone(p.words)
			for n := range lanes {
				at := spanAt(p.g, n+1) + 8*n
				log := []api.Entry{
					{At: rootAt(n), X: uint64(at)}, {At: headAt(p.g, n+1), X: headWord(small(2))}, {At: mapAt(p.g, n+1), X: full},
					{At: at, X: firstWord(9, 2, 4)}, {At: at + 2, X: uint64(at)}, {At: at + 3, X: 77}, {At: spanAt(p.g, n+1) + 63, X: 5},
				}
				written(p.words, n, log...)
				written(want, n, log...)
				want[laneAt(n)] = 0
				if which>>n&1 == 0 {
					p.words[laneAt(n)] = 0
					continue
				}
				want = with(want, log...)
				want[mapAt(p.g, n+1)] = 1 << n
				want[at] = firstWord(2, 2, 4)
			}
			becomes(t, which, p.words, want)
			stepsAre(t, which, p.words, total(p.g)-1)
		}
	}
}

// Lanes that don't count are retired, their logs aren't applied; what stands in them stays.
func TestP20_1NoCount(t *testing.T) {
	p := sound()
	log := []api.Entry{{At: rootAt(1), X: p.words[rootAt(2)]}, {At: rootAt(0), X: 1}}
	for n := range 2 {
		for _, x := range []uint64{0, 1, full, 1 << 63, seal(), seal(0), seal(logWords(log)...) ^ 1, seal(logWords(log[:1])...) ^ 1<<33, seal(make([]uint64, 34)...)} {
			words := with(p.words, api.Entry{At: laneAt(n) + 1, X: 7})
			written(words, n, log...)
			words[laneAt(n)] = x
			becomes(t, x, words, with(words, api.Entry{At: laneAt(n), X: 0}))
			stepsAre(t, x, words, total(p.g))
		}
		for word := range 4 {
			for bit := range 64 {
				words := slices.Clone(p.words)
				written(words, n, log...)
				words[entryAt(n, 0)+word] ^= 1 << bit
				becomes(t, bit, words, with(words, api.Entry{At: laneAt(n), X: 0}))
			}
		}
	}
}

// A log whose words are fixes: what it stores, and what is to be fixed behind it. Of one address the last lane's word is what fixes look at.
func TestP20_1LogsTurn(t *testing.T) {
	p := scene()
	a, c, w := p.at(0, 0), p.at(4, 31), p.at(5, 1)
	written(p.words, 0, sceneFixes()...)
	want := with(sound().words, api.Entry{At: laneAt(0), X: 0})
	copy(want[entryAt(0, 0):], p.words[entryAt(0, 0):headAt(p.g, 0)])
	want[laneAt(1)] = 0
	becomes(t, "fixes", p.words, want)
	// The roots go: nothing is reached but by the second one, which has one now.
	written(p.words, 1, api.Entry{At: rootAt(0), X: 0}, api.Entry{At: rootAt(2), X: 0}, api.Entry{At: rootAt(1), X: uint64(c)})
	want = with(p.words, sceneFixes()...)
	for span := range p.g.Spans {
		want[headAt(p.g, span)], want[mapAt(p.g, span)] = 0, 0
	}
	want[headAt(p.g, 4)], want[mapAt(p.g, 4)] = headWord(small(0)), 1<<31
	want[rootAt(0)], want[rootAt(1)], want[rootAt(2)] = 0, uint64(c), 0
	want[laneAt(0)], want[laneAt(1)] = 0, 0
	becomes(t, "other roots", p.words, want)
	q := sound()
	written(q.words, 0, api.Entry{At: rootAt(1), X: uint64(a)})
	written(q.words, 1, api.Entry{At: rootAt(1), X: uint64(w)})
	want = with(q.words, api.Entry{At: rootAt(1), X: uint64(w)}, api.Entry{At: w, X: firstWord(3, 15, 15)}, api.Entry{At: laneAt(0), X: 0}, api.Entry{At: laneAt(1), X: 0})
	becomes(t, "one address", q.words, want)
}

// A word that a log alone mends: as it stood the region couldn't be marked.
func TestP20_1MendedByLog(t *testing.T) {
	p := sound()
	for _, e := range []api.Entry{{At: rootAt(0), X: 3}, {At: headAt(p.g, 5), X: 9}, {At: mapAt(p.g, 0), X: 1}, {At: p.at(0, 0) + 1, X: 77}, {At: p.at(2, 0), X: 0}} {
		corrupt(t, e, with(p.words, e))
		words := with(p.words, e)
		written(words, 1, api.Entry{At: e.At, X: p.words[e.At]})
		want := with(words, api.Entry{At: laneAt(1), X: 0}, api.Entry{At: e.At, X: p.words[e.At]})
		becomes(t, e, words, want)
		words = slices.Clone(p.words)
		written(words, 0, e)
		corrupt(t, e, words)
	}
}

// Opened step by step the region is the same behind each step as by plain steps; what programs see of it, and what is kept, is the same, and so is how many steps there were: none is done once more.
func TestP20_1StepByStep(t *testing.T) {
	p := scene()
	logs := scene()
	written(logs.words, 0, api.Entry{At: rootAt(1), X: logs.words[rootAt(0)]}, api.Entry{At: mapAt(p.g, 6), X: full})
	written(logs.words, 1, api.Entry{At: rootAt(0), X: 0}, api.Entry{At: p.at(0, 3), X: 0}, api.Entry{At: rootAt(1), X: 0})
	for i, words := range [][]uint64{p.words, logs.words, sound().words, image.Fresh(least), crowded(7, layouts()[1]).words, logged(0, spoiled(3, crowded(5, layouts()[0]))).words, p.with(api.Entry{At: rootAt(0), X: 1}).words} {
		steps, code := plainOpen(words)
		r, plain := pmem.Of(words), pmem.Of(words)
		x := env.New(r, locks.New(api.Locks), 0, open.Deed(len(words)))
		for k, s := range steps {
			if x.Over() || x.Step() != env.Stepped {
				t.Fatalf("%d: step %d wasn't done", i, k)
			}
			s.on(plain)
			if s.kind == load && k+1 < len(words) {
				continue
			}
			if differ(r.Seen(), plain.Seen()) >= 0 || differ(r.Kept(), plain.Kept()) >= 0 || r.Steps() != plain.Steps() || x.Steps() != k+1 {
				t.Fatalf("%d: other behind step %d", i, k)
			}
		}
		told(t, i, x, code)
		if x.Step() != env.Over || r.Steps() != plain.Steps() {
			t.Fatalf("%d: more steps", i)
		}
	}
}

// One deed may open several regions, in turn, and one region again.
func TestP20_1OneDeed(t *testing.T) {
	p := scene()
	images := [][]uint64{p.words, sound().words, p.with(api.Entry{At: rootAt(0), X: 1}).words, logged(4, p).words}
	deed := open.Deed(len(p.words))
	var regions []*pmem.Region
	var runs []*env.Run
	for i, words := range images {
		regions = append(regions, pmem.Of(words))
		runs = append(runs, env.New(regions[i], locks.New(1), i, deed))
	}
	for k := 0; slices.ContainsFunc(runs, func(x *env.Run) bool { return !x.Over() }); k++ {
		runs[k*k%4].Step()
		runs[k%4].Step()
	}
	for i, words := range images {
		want, code := mend.Mended(words)
		if code != api.OK {
			want = words
		}
		told(t, i, runs[i], code)
		settled(t, i, regions[i], want)
		again := env.New(regions[i], locks.New(1), i, deed)
		again.All(-1)
		told(t, i, again, code)
		settled(t, i, regions[i], want)
	}
}

// Whoever opens, and whoever has locks: none is taken, none is asked for.
func TestP20_1NoLocks(t *testing.T) {
	p := scene()
	for _, who := range []int{-1, 0, 1, 3, 4, 99} {
		table := locks.New(api.Locks)
		table.Take(api.LockHeap, 7)
		table.Take(api.LockPublish, 3)
		r := pmem.Of(p.words)
		x := env.New(r, table, who, open.Deed(r.Size()))
		if code := x.All(-1); code != api.OK || table.Taken() != 2 || table.Owner(0) != 7 || table.Owner(1) != 3 {
			t.Fatalf("%d: %d, %d taken", who, code, table.Taken())
		}
		settled(t, who, r, sound().words)
		r = pmem.Of(p.words)
		x = env.New(r, nil, who, open.Deed(r.Size()))
		x.All(-1)
		told(t, who, x, api.OK)
		settled(t, who, r, sound().words)
	}
}

// Opened again, a region needs no fix, and no lane has a log.
func TestP20_1Again(t *testing.T) {
	for i, heads := range layouts() {
		p := spoiled(i, crowded(i, heads))
		r := pmem.Of(p.words)
		told(t, i, begun(r, r.Size(), -1), api.OK)
		kept := r.Kept()
		if !mend.Sound(kept) {
			t.Fatalf("%d: not sound", i)
		}
		for range 2 {
			if x := begun(r, r.Size(), -1); x.Steps() != total(p.g)+p.g.Lanes {
				t.Fatalf("%d: %d steps", i, x.Steps())
			}
			settled(t, i, r, kept)
		}
	}
}

// What is answered is new memory: whoever turns it turns it alone.
func TestP20_1Answer(t *testing.T) {
	x := begun(pmem.Of(scene().words), total(scene().g), -1)
	x.Answer()[0] = 5
	told(t, "answer", x, api.OK)
	if l := open.Deed(8)(nil); len(l) != 0 {
		t.Error(l)
	}
}
