package lane_test

import (
	"hash/crc32"
	"maps"
	"math"
	"slices"
	"testing"

	"trencher/api"
	"trencher/env"
	"trencher/image"
	"trencher/lane"
	"trencher/locks"
	"trencher/pmem"
)

// What the tests hold the package against: the document's numbers and steps, written out plainly.

// full is the word whose bits are all 1.
const full = math.MaxUint64

// least and most are the geometries at the edges; middle is one between them, with other numbers of each kind.
var (
	least  = api.Geometry{Spans: 1, Lanes: 1, Roots: 1}
	most   = api.Geometry{Spans: 16, Lanes: 4, Roots: 8}
	middle = api.Geometry{Spans: 3, Lanes: 2, Roots: 5}
)

// few are the geometries that are tried where all would take long: those at the edges, those with one number at the other edge, and some between.
func few() []api.Geometry {
	return []api.Geometry{least, middle, most, {Spans: 16, Lanes: 1, Roots: 1}, {Spans: 1, Lanes: 4, Roots: 1}, {Spans: 1, Lanes: 1, Roots: 8}, {Spans: 2, Lanes: 3, Roots: 7}}
}

// everyGeometry are all that may be.
func everyGeometry() []api.Geometry {
	var l []api.Geometry
	for spans := 1; spans <= 16; spans++ {
		for lanes := 1; lanes <= 4; lanes++ {
			for roots := 1; roots <= 8; roots++ {
				l = append(l, api.Geometry{Spans: spans, Lanes: lanes, Roots: roots})
			}
		}
	}
	return l
}

// wrongCounts are numbers of which there are none of anything that has so many at most, those at the edges first, and some of which the lowest bits alone would be right.
func wrongCounts(most int) []int {
	l := []int{0, most + 1, -1, most + 2, -2, most * 2, -most, 255, 256, math.MaxInt32, math.MinInt32, math.MaxInt, math.MinInt}
	for _, bit := range []int{8, 16, 31, 32, 62} {
		l = append(l, 1<<bit, 1<<bit+1, 1<<bit+most, 1-1<<bit, most-1<<bit)
	}
	return l
}

// noGeometries are some that may not be: with one number that is wrong, and with three.
func noGeometries() []api.Geometry {
	l := []api.Geometry{{}, {Spans: -1, Lanes: -1, Roots: -1}, {Spans: 17, Lanes: 5, Roots: 9}, {Spans: 4, Lanes: 16, Roots: 8}}
	for _, g := range []api.Geometry{least, most} {
		for _, n := range wrongCounts(16) {
			l = append(l, api.Geometry{Spans: n, Lanes: g.Lanes, Roots: g.Roots})
		}
		for _, n := range wrongCounts(4) {
			l = append(l, api.Geometry{Spans: g.Spans, Lanes: n, Roots: g.Roots})
		}
		for _, n := range wrongCounts(8) {
			l = append(l, api.Geometry{Spans: g.Spans, Lanes: g.Lanes, Roots: n}, api.Geometry{Spans: n * 3, Lanes: n * 3, Roots: n * 3})
		}
	}
	return l
}

// Where the parts of a region begin, and how many words it has.
func rootAt(i int) int                    { return 8 + i }
func laneAt(n int) int                    { return 16 + 40*n }
func entryAt(n, i int) int                { return 24 + 40*n + 2*i }
func headAt(g api.Geometry, span int) int { return 16 + 40*g.Lanes + 8*span }
func spanAt(g api.Geometry, span int) int { return 16 + 40*g.Lanes + 8*g.Spans + 64*span }
func total(g api.Geometry) int            { return 16 + 40*g.Lanes + 72*g.Spans }

// may tells whether an address may be written by a log.
func may(g api.Geometry, at int) bool {
	switch {
	case at >= headAt(g, 0) && at < spanAt(g, 0):
		return at%8 < 2
	case at >= spanAt(g, 0):
		return at < total(g)
	}
	return at >= 8 && at < 8+g.Roots
}

// writable are all addresses that may be written, rising.
func writable(g api.Geometry) []int {
	var l []int
	for at := range total(g) {
		if may(g, at) {
			l = append(l, at)
		}
	}
	return l
}

// edges are the addresses that may be written at the edges of all parts, and of some lines.
func edges(g api.Geometry) []int {
	last := g.Spans - 1
	l := []int{rootAt(0), rootAt(g.Roots - 1), headAt(g, 0), headAt(g, 0) + 1, headAt(g, last), headAt(g, last) + 1}
	return append(l, spanAt(g, 0), spanAt(g, 0)+7, spanAt(g, 0)+8, spanAt(g, 0)+63, spanAt(g, last), spanAt(g, last)+56, total(g)-1)
}

// unwritable are all addresses of the region that may not be written, and some that it doesn't have.
func unwritable(g api.Geometry) []int {
	var l []int
	for at := range total(g) {
		if !may(g, at) {
			l = append(l, at)
		}
	}
	l = append(l, total(g), total(g)+1, total(g)+7, total(g)+8, 16383, 16384, 16385, 1<<31, 1<<32, 1<<32+8, 1<<32+total(g)-1, 1<<62, math.MaxInt, math.MaxInt-7)
	return append(l, -1, -2, -7, -8, -9, -total(g), 8-16384, math.MinInt32, 8-1<<32, math.MinInt, math.MinInt+8, math.MinInt+total(g)-1)
}

// mixed are n words that look as if they were by chance, the same each time.
func mixed(n int, seed uint64) []uint64 {
	l := make([]uint64, n)
	x := 0x9e3779b97f4a7c15 + seed*2
	for i := range l {
		x = x*6364136223846793005 + 1442695040888963407
		l[i] = x ^ x>>29
	}
	return l
}

// chance makes what tells numbers below one that look as if they were by chance, the same each time.
func chance(seed uint64) func(below int) int {
	x := 0x2545f4914f6cdd1d + seed*0x9e3779b97f4a7c15
	return func(below int) int {
		x = x*6364136223846793005 + 1442695040888963407
		return int((x ^ x>>31) >> 8 % uint64(below))
	}
}

// seal is the seal of words.
func seal(words []uint64) uint64 {
	var b []byte
	for _, w := range words {
		for range 8 {
			b = append(b, byte(w%256))
			w /= 256
		}
	}
	return 1<<63 + uint64(len(words))<<32 + uint64(crc32.ChecksumIEEE(b))
}

// logWords are a log's words.
func logWords(l []api.Entry) []uint64 {
	words := make([]uint64, 2*len(l))
	for i, s := range l {
		words[2*i] = uint64(s.At) + uint64(i)*4294967296
		words[2*i+1] = s.X
	}
	return words
}

// fresh has the words of an image in which all behind the superblock is 0.
func fresh(g api.Geometry) []uint64 {
	return image.Fresh(g)
}

// busy has the words of an image with something in each word, but for seals, which are 0.
func busy(g api.Geometry) []uint64 {
	words := fresh(g)
	copy(words[8:], mixed(len(words)-8, uint64(total(g))))
	for n := range g.Lanes {
		words[laneAt(n)] = 0
	}
	return words
}

// written lays a log into a lane of the words, sealed. What stood behind it is left.
func written(words []uint64, n int, l []api.Entry) {
	copy(words[entryAt(n, 0):], logWords(l))
	words[laneAt(n)] = seal(logWords(l))
}

// spread is a log of n entries over what may be written: those from one of them on, that far apart.
func spread(g api.Geometry, n, from, apart int) []api.Entry {
	at := writable(g)
	var l []api.Entry
	for i, x := range mixed(n, uint64(n*977+from*31+apart)) {
		l = append(l, api.Entry{At: at[(from+i*apart)%len(at)], X: x})
	}
	return l
}

// reversed has the entries the other way round.
func reversed(l []api.Entry) []api.Entry {
	r := slices.Clone(l)
	slices.Reverse(r)
	return r
}

// logs are logs that may go through a lane: of one entry at each edge, of two, of many; in one line, in several, rising, falling, mixed; of one address several times; with words at the edges.
func logs(g api.Geometry) [][]api.Entry {
	var l [][]api.Entry
	for i, at := range edges(g) {
		l = append(l, []api.Entry{{At: at, X: []uint64{7, 0, full, 1, 1 << 63}[i%5]}})
	}
	a, b := spanAt(g, 0), total(g)-1
	l = append(l,
		[]api.Entry{{At: a, X: 1}, {At: a + 7, X: 2}}, // one line
		[]api.Entry{{At: a + 7, X: 1}, {At: a, X: 2}},
		[]api.Entry{{At: a + 7, X: 1}, {At: a + 8, X: 2}}, // neighbours in two lines
		[]api.Entry{{At: b, X: 1}, {At: rootAt(0), X: 2}},
		[]api.Entry{{At: a, X: 3}, {At: a, X: 4}}, // one address
		[]api.Entry{{At: a, X: 4}, {At: a, X: 4}},
		[]api.Entry{{At: a, X: 3}, {At: b, X: 4}, {At: a, X: 5}},
		[]api.Entry{{At: b, X: 0}, {At: a, X: full}, {At: headAt(g, 0) + 1, X: 0}, {At: rootAt(g.Roots - 1), X: full}},
	)
	for _, n := range []int{2, 3, 4, 5, 8, 9, 15, 16} {
		l = append(l, spread(g, n, g.Roots+2*g.Spans, 1), reversed(spread(g, n, 0, 1)), spread(g, n, n, 8), reversed(spread(g, n, n, 9)), spread(g, n, 5, 23))
	}
	same := spread(g, 16, 9, 1)
	for i := range same {
		same[i].At = a + i%3*8
	}
	return append(l, same)
}

// some are a few of these, for what takes long.
func some(g api.Geometry) [][]api.Entry {
	a := spanAt(g, 0)
	return [][]api.Entry{{{At: rootAt(0), X: 7}}, {{At: total(g) - 1, X: full}, {At: a, X: 0}}, {{At: a + 9, X: 3}, {At: headAt(g, 0), X: 4}, {At: a + 9, X: 5}}, spread(g, 5, 3, 9), spread(g, 16, 1, 3), reversed(spread(g, 16, 7, 8))}
}

// noLogs are some that may not be, whatever the geometry: too short or too long, or with an address that no region has.
func noLogs(g api.Geometry) [][]api.Entry {
	l := [][]api.Entry{nil, {}, spread(g, 17, 0, 1), spread(g, 18, 3, 1), spread(g, 32, 0, 2), spread(g, 33, 0, 1), spread(g, 1000, 0, 1), make([]api.Entry, 17)}
	for _, at := range unwritable(g) {
		if at >= 0 && at < 16384 {
			continue
		}
		for _, n := range []int{1, 2, 16} {
			for _, i := range []int{0, n / 2, n - 1} {
				wrong := spread(g, n, 2, 3)
				wrong[i].At = at
				l = append(l, wrong)
			}
		}
	}
	return l
}

// Kinds of steps, and what is none of them.
const (
	load = iota
	store
	flush
	fence
	other
)

// step is one that a run does: its kind; its address, of a flush its line's, of a load and of a fence 0; the word that is stored.
type step struct {
	kind, at int
	x        uint64
}

// on does the step on a region. What is loaded doesn't matter there.
func (s step) on(r *pmem.Region) {
	switch s.kind {
	case load:
		r.Load(s.at)
	case store:
		r.Store(s.at, s.x)
	case flush:
		r.Flush(s.at)
	case fence:
		r.Fence()
	}
}

// plainLines are the lines of addresses from 0 to 16383.
func plainLines(l []api.Entry) []int {
	there := map[int]bool{}
	for _, s := range l {
		there[s.At/8*8] = true
	}
	return slices.Sorted(maps.Keys(there))
}

// keeping are the steps that store, and keep what was stored.
func keeping(l ...api.Entry) []step {
	var steps []step
	for _, s := range l {
		steps = append(steps, step{store, s.At, s.X})
	}
	for _, a := range plainLines(l) {
		steps = append(steps, step{flush, a, 0})
	}
	return append(steps, step{kind: fence})
}

// plainThrough are the steps by which a log goes through a lane.
func plainThrough(n int, l []api.Entry) []step {
	var words []api.Entry
	for i, x := range logWords(l) {
		words = append(words, api.Entry{At: entryAt(n, 0) + i, X: x})
	}
	sealed, retired := api.Entry{At: laneAt(n), X: seal(logWords(l))}, api.Entry{At: laneAt(n)}
	return slices.Concat(keeping(words...), keeping(sealed), keeping(l...), keeping(retired))
}

// until is how many steps of a log are done behind its part: 1 it is written, 2 sealed, 3 applied, 4 retired.
func until(n int, l []api.Entry, part int) int {
	for i, s := range plainThrough(n, l) {
		if s.kind == fence {
			part--
		}
		if part == 0 {
			return i + 1
		}
	}
	return -1
}

// applied has the words with the log's entries stored, in order.
func applied(words []uint64, l []api.Entry) []uint64 {
	w := slices.Clone(words)
	for _, s := range l {
		w[s.At] = s.X
	}
	return w
}

// counts tells what a lane's seal and its entries' words tell: a log, and whether there is one.
func counts(words []uint64, n int) ([]api.Entry, bool) {
	for many := 1; many <= 16 && words[laneAt(n)] != 0; many++ {
		w := words[entryAt(n, 0) : entryAt(n, 0)+2*many]
		if words[laneAt(n)] != seal(w) {
			continue
		}
		var l []api.Entry
		for i := range many {
			at := w[2*i] - uint64(i)*4294967296
			if at >= 16384 {
				return nil, false
			}
			l = append(l, api.Entry{At: int(at), X: w[2*i+1]})
		}
		return l, true
	}
	return nil, false
}

// plainReplay are the steps of a Replay over these words, how many lanes are applied, and the words behind it.
func plainReplay(g api.Geometry, words []uint64) (steps []step, many int, behind []uint64) {
	behind = slices.Clone(words)
	for n := range g.Lanes {
		steps = append(steps, step{kind: load})
		if words[laneAt(n)] == 0 {
			continue
		}
		for range 32 {
			steps = append(steps, step{kind: load})
		}
		l, ok := counts(words, n)
		for _, s := range l {
			ok = ok && may(g, s.At)
		}
		if ok {
			many++
			steps = append(steps, keeping(l...)...)
			behind = applied(behind, l)
		}
		steps = append(steps, keeping(api.Entry{At: laneAt(n)})...)
		behind[laneAt(n)] = 0
	}
	return
}

// through is a deed that lets a log go through a lane, and answers whether it did.
func through(g api.Geometry, n int, l []api.Entry) func(*env.Env) []uint64 {
	return func(e *env.Env) []uint64 {
		if lane.Through(e, g, n, l) {
			return []uint64{1}
		}
		return []uint64{0}
	}
}

// replay is a deed that replays, and answers how many lanes were applied.
func replay(g api.Geometry) func(*env.Env) []uint64 {
	return func(e *env.Env) []uint64 { return []uint64{uint64(lane.Replay(e, g))} }
}

// begun is a run of a deed of which so many steps were done (below 0: all), over a region of these words.
func begun(words []uint64, deed func(*env.Env) []uint64, fuse int) (*pmem.Region, *env.Run) {
	r := pmem.Of(words)
	x := env.New(r, locks.New(api.Locks), 0, deed)
	x.All(fuse)
	return r, x
}

// differ is the first address at which words differ; -1, if they don't.
func differ(a, b []uint64) int {
	for i := range a {
		if i >= len(b) || a[i] != b[i] {
			return i
		}
	}
	if len(b) > len(a) {
		return len(a)
	}
	return -1
}

// marked lets programs see, in a region, at each address a word that nothing else here has.
func marked(r *pmem.Region) []uint64 {
	marks := mixed(r.Size(), 424243)
	for a, x := range marks {
		r.Store(a, x)
	}
	return marks
}

// next is which step a deed does behind so many ones, told by what it does to a region that is marked; false, if it is over by then.
func next(words []uint64, deed func(*env.Env) []uint64, done int) (step, bool) {
	r, x := begun(words, deed, done)
	if x.Over() {
		return step{}, false
	}
	marks := marked(r)
	kept, steps := r.Kept(), r.Steps()
	if x.Step() != env.Stepped || r.Steps() != steps+1 {
		return step{kind: other}, true
	}
	if a := differ(r.Seen(), marks); a >= 0 {
		return step{store, a, r.Seen()[a]}, true
	}
	if fences(words, deed, done) {
		return step{kind: fence}, true
	}
	r.Fence()
	for a := 0; a < r.Size(); a += 8 {
		if kept[a] != marks[a] && r.Kept()[a] == marks[a] {
			return step{flush, a, 0}, true
		}
	}
	return step{kind: load}, true
}

// fences tells whether the step behind so many ones is a fence, told by a line that is pending then.
func fences(words []uint64, deed func(*env.Env) []uint64, done int) bool {
	r, x := begun(words, deed, done)
	marks := marked(r)
	r.Flush(0)
	x.Step()
	return r.Kept()[0] == marks[0]
}

// traced are all steps of a deed over these words, as they are done one by one.
func traced(words []uint64, deed func(*env.Env) []uint64) []step {
	var l []step
	for s, more := next(words, deed, 0); more; s, more = next(words, deed, len(l)) {
		l = append(l, s)
	}
	return l
}

// picks are ways to pick what is kept: each makes a new one.
func picks(seeds int) []func() func(int) int {
	l := []func() func(int) int{
		func() func(int) int { return func(int) int { return 0 } },
		func() func(int) int { return func(many int) int { return many - 1 } },
		func() func(int) int { return func(many int) int { return many / 2 } },
		func() func(int) int {
			i := 0
			return func(many int) int { i++; return i % 2 * (many - 1) }
		},
		func() func(int) int {
			i := 0
			return func(many int) int { i++; return (i + 1) % 2 * (many - 1) }
		},
	}
	for seed := range seeds {
		l = append(l, func() func(int) int { return chance(uint64(seed) + 17) })
	}
	return l
}

// everyPick asks, again and again, for a region without power, till each way to pick was picked.
func everyPick(do func(pick func(int) int)) {
	var path, many []int
	for {
		i := 0
		do(func(n int) int {
			if i == len(path) {
				path, many = append(path, 0), append(many, n)
			}
			i++
			return path[i-1]
		})
		for len(path) > 0 && path[len(path)-1] == many[len(path)-1]-1 {
			path, many = path[:len(path)-1], many[:len(path)-1]
		}
		if len(path) == 0 {
			return
		}
		path[len(path)-1]++
	}
}

// noting makes a pick that notes of how many it is asked.
func noting(pick func(int) int, asked *[]int) func(int) int {
	return func(many int) int {
		*asked = append(*asked, many)
		return pick(many)
	}
}

// sameRegion holds two regions against each other: what programs see, what is kept, how many steps there were.
func sameRegion(t *testing.T, what any, r, want *pmem.Region) {
	t.Helper()
	if a := differ(r.Seen(), want.Seen()); a >= 0 {
		t.Fatalf("%v: programs see %x at %d, not %x", what, r.Seen()[a], a, want.Seen()[a])
	}
	if a := differ(r.Kept(), want.Kept()); a >= 0 {
		t.Fatalf("%v: %x is kept at %d, not %x", what, r.Kept()[a], a, want.Kept()[a])
	}
	if r.Steps() != want.Steps() {
		t.Fatalf("%v: %d steps, not %d", what, r.Steps(), want.Steps())
	}
}

// sameWithout holds two regions without power against each other: of how many words each pick is asked, and what is left.
func sameWithout(t *testing.T, what any, r, want *pmem.Region, pick func() func(int) int) {
	t.Helper()
	var a, b []int
	r.Crash(noting(pick(), &a))
	want.Crash(noting(pick(), &b))
	if !slices.Equal(a, b) {
		t.Fatalf("%v: picked among %v, not %v", what, a, b)
	}
	sameRegion(t, what, r, want)
}

// besideLanes are an image's words but for its lanes'.
func besideLanes(g api.Geometry, words []uint64) []uint64 {
	return slices.Concat(words[:laneAt(0)], words[headAt(g, 0):])
}

// settled are an image's words beside lanes, replayed.
func settled(t *testing.T, what any, g api.Geometry, words []uint64) []uint64 {
	t.Helper()
	w, code := image.Replayed(words)
	if code != api.OK {
		t.Fatalf("%v: can't be replayed: %d", what, code)
	}
	return besideLanes(g, w)
}
