package open_test

import (
	"hash/crc32"
	"maps"
	"math"
	"slices"
	"testing"

	"trencher/api"
	"trencher/env"
	"trencher/image"
	"trencher/locks"
	"trencher/mend"
	"trencher/open"
	"trencher/pmem"
)

// What the tests hold the package against: the document's numbers and steps, written out plainly.

// full is the word whose bits are all 1.
const full = math.MaxUint64

// least and most are the geometries at the edges; middle is one between them, with other numbers of each kind.
var (
	least  = api.Geometry{Spans: 1, Lanes: 1, Roots: 1}
	most   = api.Geometry{Spans: 16, Lanes: 4, Roots: 8}
	middle = api.Geometry{Spans: 3, Lanes: 2, Roots: 5}
)

// few are the geometries that are tried where all would take long: those at the edges, those with one number at the other edge, and some between.
func few() []api.Geometry {
	return []api.Geometry{least, middle, most, {Spans: 16, Lanes: 1, Roots: 1}, {Spans: 1, Lanes: 4, Roots: 1}, {Spans: 1, Lanes: 1, Roots: 8}, {Spans: 2, Lanes: 3, Roots: 7}}
}

// everyGeometry are all that may be.
func everyGeometry() []api.Geometry {
	var l []api.Geometry
	for spans := 1; spans <= 16; spans++ {
		for lanes := 1; lanes <= 4; lanes++ {
			for roots := 1; roots <= 8; roots++ {
				l = append(l, api.Geometry{Spans: spans, Lanes: lanes, Roots: roots})
			}
		}
	}
	return l
}

// Where the parts of a region begin, and how many words it has.
func rootAt(i int) int                    { return 8 + i }
func laneAt(n int) int                    { return 16 + 40*n }
func entryAt(n, i int) int                { return 24 + 40*n + 2*i }
func headAt(g api.Geometry, span int) int { return 16 + 40*g.Lanes + 8*span }
func mapAt(g api.Geometry, span int) int  { return headAt(g, span) + 1 }
func spanAt(g api.Geometry, span int) int { return 16 + 40*g.Lanes + 8*g.Spans + 64*span }
func total(g api.Geometry) int            { return 16 + 40*g.Lanes + 72*g.Spans }

// A dice tells numbers that look as if they were by chance, the same each time.
type dice uint64

func (d *dice) word() uint64 {
	*d = *d*6364136223846793005 + 1442695040888963407
	return uint64(*d) ^ uint64(*d)>>29
}

func (d *dice) below(n int) int { return int(d.word() >> 33 % uint64(n)) }

// crc is the sum of words.
func crc(words ...uint64) uint64 {
	var b []byte
	for _, w := range words {
		for range 8 {
			b = append(b, byte(w%256))
			w /= 256
		}
	}
	return uint64(crc32.ChecksumIEEE(b))
}

// seal is the seal of words.
func seal(words ...uint64) uint64 {
	return 1<<63 + uint64(len(words))<<32 + crc(words...)
}

// super is a geometry's superblock.
func super(g api.Geometry) []uint64 {
	l := []uint64{0x7472656e63686572, 3, uint64(g.Spans) + uint64(g.Lanes)*65536 + uint64(g.Roots)*65536*65536, uint64(total(g)), 0, 0, 0}
	return append(l, seal(l...))
}

// free is the head of a span that is free.
var free = api.Head{}

// small is the head of a span whose blocks are of a class.
func small(class int) api.Head { return api.Head{Kind: 1, Class: class} }

// block has the heads of a large block's spans.
func block(many int) []api.Head {
	return []api.Head{{Kind: 2, Class: 4, Many: many}, {Kind: 3, Class: 4, Many: 1}, {Kind: 3, Class: 4, Many: 2}, {Kind: 3, Class: 4, Many: 3}}[:many]
}

// every has all heads that may be.
func every() []api.Head {
	return slices.Concat([]api.Head{free, small(0), small(1), small(2), small(3)}, block(4), block(3)[:1], block(2)[:1], block(1))
}

// of is a list of these heads; join has lists, one behind the other.
func of(heads ...api.Head) []api.Head          { return heads }
func join(lists ...[]api.Head) []api.Head      { return slices.Concat(lists...) }
func times(many int, h ...api.Head) []api.Head { return slices.Repeat(h, many) }

// headWord is a head's word.
func headWord(h api.Head) uint64 {
	if h == free {
		return 0
	}
	x := uint64(h.Kind) + uint64(h.Class)*4 + uint64(h.Many)*32
	return x + crc(x)<<32
}

// firstWord is an object's first word.
func firstWord(refs, slots, words int) uint64 {
	return uint64(refs) + uint64(slots)*65536 + uint64(words)*16777216
}

// logWords are a log's words.
func logWords(l []api.Entry) []uint64 {
	words := make([]uint64, 2*len(l))
	for i, e := range l {
		words[2*i] = uint64(e.At) + uint64(i)*4294967296
		words[2*i+1] = e.X
	}
	return words
}

// written lays a log into a lane of an image, in place, with its seal.
func written(words []uint64, n int, l ...api.Entry) {
	copy(words[entryAt(n, 0):laneAt(n)+40], logWords(l))
	words[laneAt(n)] = seal(logWords(l)...)
}

// with is an image with these words stored.
func with(words []uint64, l ...api.Entry) []uint64 {
	turned := slices.Clone(words)
	for _, e := range l {
		turned[e.At] = e.X
	}
	return turned
}

// differing are the words in which another image differs from one, as entries.
func differing(from, to []uint64) []api.Entry {
	var l []api.Entry
	for a := range from {
		if from[a] != to[a] {
			l = append(l, api.Entry{At: a, X: to[a]})
		}
	}
	return l
}

// differ is the first address at which words differ; -1, if they don't.
func differ(a, b []uint64) int {
	for i := range a {
		if i >= len(b) || a[i] != b[i] {
			return i
		}
	}
	if len(b) > len(a) {
		return len(a)
	}
	return -1
}

// Kinds of steps, and what is none of them.
const (
	load = iota
	store
	flush
	fence
	other
)

// step is one that a run does: its kind; its address, of a flush its line's, of a load and of a fence 0; the word that is stored.
type step struct {
	kind, at int
	x        uint64
}

// on does the step on a region. What is loaded doesn't matter there.
func (s step) on(r *pmem.Region) {
	switch s.kind {
	case load:
		r.Load(0)
	case store:
		r.Store(s.at, s.x)
	case flush:
		r.Flush(s.at)
	case fence:
		r.Fence()
	}
}

// loads are so many.
func loads(many int) []step {
	return slices.Repeat([]step{{kind: load}}, max(many, 0))
}

// keeping are the steps that store, and keep what was stored.
func keeping(l ...api.Entry) []step {
	var steps []step
	lines := map[int]int{}
	for _, e := range l {
		steps = append(steps, step{store, e.At, e.X})
		lines[e.At/8*8]++
	}
	for _, a := range slices.Sorted(maps.Keys(lines)) {
		steps = append(steps, step{flush, a, 0})
	}
	return append(steps, step{kind: fence})
}

// plainReplay are the steps by which the lanes of an image that can be mended are replayed.
func plainReplay(g api.Geometry, words []uint64) []step {
	var steps []step
	for n, l := range image.Lanes(g, words) {
		steps = append(steps, loads(1)...)
		if words[laneAt(n)] == 0 {
			continue
		}
		steps = append(steps, loads(32)...)
		if len(l) > 0 {
			steps = append(steps, keeping(l...)...)
		}
		steps = append(steps, keeping(api.Entry{At: laneAt(n)})...)
	}
	return steps
}

// plainOpen are the steps by which a region of these words is opened, and what is told of it.
func plainOpen(words []uint64) ([]step, api.Errno) {
	steps := loads(len(words))
	mended, code := mend.Mended(words)
	if code != api.OK {
		return steps, api.ErrCorrupt
	}
	g, _ := image.Geometry(words)
	replayed, _ := image.Replayed(words)
	steps = append(steps, plainReplay(g, words)...)
	if l := differing(replayed, mended); len(l) > 0 {
		steps = append(steps, keeping(l...)...)
	}
	return steps, api.OK
}

// begun is a run that opens a region of so many words, of which so many steps were done (below 0: all).
func begun(r *pmem.Region, size, fuse int) *env.Run {
	x := env.New(r, locks.New(api.Locks), 0, open.Deed(size))
	x.All(fuse)
	return x
}

// told checks that a run is over, and told just that error.
func told(t *testing.T, what any, x *env.Run, code api.Errno) {
	t.Helper()
	if l := x.Answer(); !x.Over() || !slices.Equal(l, []uint64{uint64(code)}) {
		t.Fatalf("%v: over %v, answered %v, not %d", what, x.Over(), l, code)
	}
}

// settled checks that a region has these words, that all of them are kept, and that no line is pending.
func settled(t *testing.T, what any, r *pmem.Region, want []uint64) {
	t.Helper()
	if a := differ(r.Seen(), want); a >= 0 {
		t.Fatalf("%v: programs see another word at %d", what, a)
	}
	if a := differ(r.Kept(), want); a >= 0 {
		t.Fatalf("%v: another word is kept at %d", what, a)
	}
	if r.Fence(); differ(r.Kept(), want) >= 0 {
		t.Fatalf("%v: a line was pending", what)
	}
}

// opens checks that a region of these words is opened by just the plain steps, at once: what it tells, what is seen and kept behind it, how many steps it takes. It tells the error.
func opens(t *testing.T, what any, words []uint64) api.Errno {
	t.Helper()
	steps, code := plainOpen(words)
	r := pmem.Of(words)
	x := begun(r, len(words), -1)
	told(t, what, x, code)
	if x.Steps() != len(steps) || r.Steps() != int64(len(steps)) || len(steps) > open.Bound(len(words)) {
		t.Fatalf("%v: %d steps, %d of the region, not %d", what, x.Steps(), r.Steps(), len(steps))
	}
	want := words
	if code == api.OK {
		want, _ = mend.Mended(words)
	}
	settled(t, what, r, want)
	return code
}

// becomes checks that a region of some words is opened, and has just these behind it.
func becomes(t *testing.T, what any, words, want []uint64) {
	t.Helper()
	if code := opens(t, what, words); code != api.OK {
		t.Fatalf("%v: %d", what, code)
	}
	r := pmem.Of(words)
	begun(r, len(words), -1)
	settled(t, what, r, want)
}

// corrupt checks that a region of some words is told as corrupt, by loading them alone.
func corrupt(t *testing.T, what any, words []uint64) {
	t.Helper()
	if code := opens(t, what, words); code != api.ErrCorrupt {
		t.Fatalf("%v: %d", what, code)
	}
}

// marked lets programs see, in a region, at each address a word that nothing else here has.
func marked(r *pmem.Region) []uint64 {
	marks := make([]uint64, r.Size())
	d := dice(424243)
	for a := range marks {
		marks[a] = d.word()
		r.Store(a, marks[a])
	}
	return marks
}

// next is which step an opening does behind so many ones, told by what it does to a region that is marked; false, if it is over by then.
func next(words []uint64, done int) (step, bool) {
	r := pmem.Of(words)
	x := begun(r, len(words), done)
	if x.Over() {
		return step{}, false
	}
	marks := marked(r)
	kept, steps := r.Kept(), r.Steps()
	if x.Step() != env.Stepped || r.Steps() != steps+1 {
		return step{kind: other}, true
	}
	if a := differ(r.Seen(), marks); a >= 0 {
		return step{store, a, r.Seen()[a]}, true
	}
	if fences(words, done) {
		return step{kind: fence}, true
	}
	r.Fence()
	for a := 0; a < r.Size(); a += 8 {
		if kept[a] != marks[a] && r.Kept()[a] == marks[a] {
			return step{flush, a, 0}, true
		}
	}
	return step{kind: load}, true
}

// fences tells whether the step behind so many ones is a fence, told by a line that is pending then.
func fences(words []uint64, done int) bool {
	r := pmem.Of(words)
	x := begun(r, len(words), done)
	marks := marked(r)
	r.Flush(0)
	x.Step()
	return r.Kept()[0] == marks[0]
}

// traced are all steps of an opening from one of them on, as they are done one by one.
func traced(words []uint64, from int) []step {
	var l []step
	for s, more := next(words, from); more; s, more = next(words, from+len(l)) {
		l = append(l, s)
	}
	return l
}

// stepsAre checks each step of an opening, from one of them on, one by one.
func stepsAre(t *testing.T, what any, words []uint64, from int) {
	t.Helper()
	want, _ := plainOpen(words)
	got := traced(words, from)
	for i := range max(len(got), len(want)-from) {
		if i >= len(got) || i >= len(want)-from || got[i] != want[from+i] {
			t.Fatalf("%v: step %d of %d (%d there): %v", what, from+i, len(want), from+len(got), got[min(i, len(got)-1):min(i+1, len(got))])
		}
	}
}
