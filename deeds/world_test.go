package deeds_test

import (
	"maps"
	"slices"
	"testing"

	"trencher/addr"
	"trencher/api"
	"trencher/deeds"
	"trencher/env"
	"trencher/geom"
	"trencher/heap"
	"trencher/image"
	"trencher/locks"
	"trencher/mend"
	"trencher/pmem"
)

// world is a region with a heap and a table of locks, on which calls are done, beside what there should be.
type world struct {
	t      *testing.T
	g      api.Geometry
	region *pmem.Region
	heap   *heap.Heap
	locks  *locks.Table
	plain  *plain
	// stepwise tells whether calls go step by step, each of which is looked at.
	stepwise bool
	// odd tells whether there are blocks that are neither an object's nor free.
	odd bool
}

// fresh is a world of a fresh image, but that its heap has junk in all its words.
func fresh(t *testing.T, g api.Geometry) *world {
	words := image.Fresh(g)
	next := chance(7)
	for at := spanAt(g, 0); at < len(words); at++ {
		words[at] = uint64(next(1<<62)) + 1
	}
	p := &plain{g: g, roots: make([]int, g.Roots), things: map[int]*thing{}}
	return over(t, words, p)
}

// over is a world of an image that has these objects, with the heap that the image tells.
func over(t *testing.T, words []uint64, p *plain) *world {
	t.Helper()
	heads, code := image.Heads(p.g, words)
	if code != api.OK {
		t.Fatal(code)
	}
	made := func() *heap.Heap { return heap.New(p.g, heads, image.Maps(p.g, words)) }
	p.heap, p.region = made(), pmem.Of(words)
	return &world{t: t, g: p.g, region: pmem.Of(words), heap: made(), locks: locks.New(api.Locks), plain: p}
}

// reopened is a world of what is left once the region is opened.
func (w *world) reopened() *world {
	w.t.Helper()
	words, code := mend.Mended(w.region.Seen())
	if code != api.OK {
		w.t.Fatal(code)
	}
	x := over(w.t, words, w.plain.opened())
	x.stepwise = w.stepwise
	return x
}

// shelves has what a heap has in its lists, and in its caches behind them.
func shelves(g api.Geometry, h *heap.Heap) [][]int {
	var l [][]int
	for class := range 4 {
		l = append(l, h.List(class))
	}
	for who := range g.Lanes {
		for class := range 4 {
			l = append(l, h.Cache(who, class))
		}
	}
	return l
}

// same tells whether lists have the same.
func same(a, b [][]int) bool {
	return slices.EqualFunc(a, b, slices.Equal[[]int])
}

// run is that of a call.
func (w *world) run(c api.Call) *env.Run {
	return env.New(w.region, w.locks, c.Who, deeds.Deed(w.g, w.heap, c))
}

// wiped lets all lanes' entries be 0, so that behind a call those of its log alone stand there.
func (w *world) wiped() {
	for at := range w.region.Size() {
		if isEntry(w.g, at) {
			w.region.Store(at, 0)
			w.region.Flush(at)
		}
	}
	w.region.Fence()
}

// logged are the entries that stand in a lane, from its beginning on, as they are told there.
func logged(g api.Geometry, words []uint64, n int) []api.Entry {
	var l []api.Entry
	for i := range 16 {
		at := entryAt(n, i)
		if words[at] == 0 {
			break
		}
		l = append(l, api.Entry{At: int(words[at] % (1 << 32)), X: words[at+1]})
	}
	return l
}

// isLog holds entries against words that should be published by them, each once.
func isLog(l []api.Entry, words map[int]uint64) bool {
	got := map[int]uint64{}
	for _, s := range l {
		got[s.At] = s.X
	}
	return len(got) == len(l) && maps.Equal(got, words)
}

// do does a call, and holds all that it did against what it should have done: its answer.
func (w *world) do(c api.Call) api.Answer {
	w.t.Helper()
	w.wiped()
	want := w.plain.do(c, api.Answer{})
	taken := w.locks.Taken()
	x := w.run(c)
	if w.stepwise {
		w.steps(c, x)
	} else if code := x.All(-1); code != api.OK {
		w.t.Fatalf("%+v: %d", c, code)
	}
	l := x.Answer()
	if got := deeds.Answer(l); got != want || len(l) != 3 {
		w.t.Fatalf("%+v: %v (%v), not %v", c, got, l, want)
	}
	if x.Steps() > deeds.Bound(w.g) || len(w.locks.Of(c.Who)) != 0 || w.locks.Owner(0) >= 0 || w.locks.Owner(1) >= 0 || w.locks.Taken() > taken+3 {
		w.t.Fatalf("%+v: %d steps, locks %v, %d taken", c, x.Steps(), w.locks.Of(c.Who), w.locks.Taken()-taken)
	}
	w.holds(c)
	return want
}

// gives does a call, which should answer that, too.
func (w *world) gives(c api.Call, want api.Answer) {
	w.t.Helper()
	if got := w.do(c); got != want {
		w.t.Fatalf("%+v: %v, not %v", c, got, want)
	}
}

// holds holds what there is behind a call against what there should be.
func (w *world) holds(c api.Call) {
	w.t.Helper()
	w.sameWords(c, "seen", w.region.Seen(), w.plain.region.Seen())
	w.sameWords(c, "kept", w.region.Kept(), w.plain.region.Kept())
	for n := range w.g.Lanes {
		want := map[int]uint64{}
		if n == c.Who {
			want = w.plain.log
		}
		if l := logged(w.g, w.region.Seen(), n); !isLog(l, want) {
			w.t.Fatalf("%+v: the lane %d has %v, not %v", c, n, l, want)
		}
	}
	kept := w.region.Kept()
	if w.region.Fence(); !slices.Equal(w.region.Kept(), kept) {
		w.t.Fatalf("%+v: a line is pending", c)
	}
	if got, want := w.heap.Heads(), w.plain.heap.Heads(); !slices.Equal(got, want) {
		w.t.Fatalf("%+v: heads %v, not %v", c, got, want)
	}
	if got, want := shelves(w.g, w.heap), shelves(w.g, w.plain.heap); !same(got, want) {
		w.t.Fatalf("%+v: lists and caches %v, not %v", c, got, want)
	}
	if !w.odd {
		w.census(c)
	}
}

// sameWords holds an image's words, beside lanes' entries, against others.
func (w *world) sameWords(c api.Call, what string, got, want []uint64) {
	w.t.Helper()
	for at, x := range want {
		if got[at] != x && !isEntry(w.g, at) {
			w.t.Fatalf("%+v: %s at %d, %+v, is %x, not %x", c, what, at, geom.Where(w.g, at), got[at], x)
		}
	}
}

// census holds that each block is an object's or free, just once, and that the region can be opened.
func (w *world) census(c api.Call) {
	w.t.Helper()
	heads, code := image.Heads(w.g, w.region.Seen())
	if code != api.OK || !slices.Equal(heads, w.heap.Heads()) {
		w.t.Fatalf("%+v: %d, heads %v, not %v", c, code, heads, w.heap.Heads())
	}
	blocks := append(w.plain.addresses(), w.heap.Free()...)
	slices.Sort(blocks)
	if all := addr.All(w.g, heads); !slices.Equal(blocks, all) {
		w.t.Fatalf("%+v: blocks %v, not %v", c, blocks, all)
	}
	if _, code := mend.Mended(w.region.Seen()); code != api.OK {
		w.t.Fatalf("%+v: %d", c, code)
	}
}

// moment is what there was ahead of a step.
type moment struct {
	words, kept []uint64
	heads       []api.Head
	shelves     [][]int
}

// now is the moment.
func (w *world) now() moment {
	return moment{w.region.Seen(), w.region.Kept(), w.heap.Heads(), shelves(w.g, w.heap)}
}

// steps lets a call go step by step, till it is over, and looks at each step, and at what was sealed.
func (w *world) steps(c api.Call, x *env.Run) {
	w.t.Helper()
	sealed := 0
	was := w.now()
	for !x.Over() {
		had := w.locks.Of(c.Who)
		if s := x.Step(); s == env.Blocked || s == env.Over && !x.Over() {
			w.t.Fatalf("%+v: step %d: %d", c, x.Steps(), s)
		}
		is := w.now()
		w.stepMay(c, x.Steps(), had, was, is)
		if c.Who >= 0 && c.Who < w.g.Lanes && was.words[laneAt(c.Who)] == 0 && is.words[laneAt(c.Who)] != 0 {
			sealed++
			w.sealed(c, is)
		}
		was = is
	}
	if want := min(len(w.plain.log), 1); sealed != want {
		w.t.Fatalf("%+v: sealed %d times, not %d", c, sealed, want)
	}
}

// sealed holds the log that was just sealed against what the call should publish. It is kept already, and nothing of it was stored yet.
func (w *world) sealed(c api.Call, is moment) {
	w.t.Helper()
	l := image.Lanes(w.g, is.words)[c.Who]
	if !isLog(l, w.plain.log) {
		w.t.Fatalf("%+v: %v is sealed, not %v", c, l, w.plain.log)
	}
	for i := range 2 * len(l) {
		if at := entryAt(c.Who, 0) + i; is.kept[at] != is.words[at] {
			w.t.Fatalf("%+v: sealed, but its word %d isn't kept", c, i)
		}
	}
}

// stepMay holds what a step turned against the locks that were had then: what is published is turned under LockPublish alone, spans' heads and lists under LockHeap, but a large object's heads (in the heap they may be free without a lock).
func (w *world) stepMay(c api.Call, n int, had []int, was, is moment) {
	w.t.Helper()
	turned := 0
	for at := range is.words {
		if is.words[at] == was.words[at] {
			continue
		}
		turned++
		lock := api.LockPublish
		if p := geom.Where(w.g, at); p.Area == api.AreaHeads && p.Off == 0 && !slices.Contains(had, api.LockPublish) {
			lock = api.LockHeap
		}
		if !slices.Contains(had, lock) {
			w.t.Fatalf("%+v: step %d turns %d under the locks %v", c, n, at, had)
		}
	}
	heads, shelf := !slices.Equal(is.heads, was.heads), !same(is.shelves, was.shelves)
	if heads || shelf {
		turned++
	}
	if turned > 1 {
		w.t.Fatalf("%+v: step %d turns several", c, n)
	}
	lists := !same(is.shelves[:4], was.shelves[:4])
	if (lists || heads && c.Kind != 2) && !slices.Contains(had, api.LockHeap) {
		w.t.Fatalf("%+v: step %d turns lists or heads under the locks %v", c, n, had)
	}
	for i := range is.shelves[4:] {
		if i/4 != c.Who && !slices.Equal(is.shelves[4+i], was.shelves[4+i]) {
			w.t.Fatalf("%+v: step %d turns the cache of %d", c, n, i/4)
		}
	}
}

// stepless holds that a call is over without any step, also while somebody else has both locks.
func (w *world) stepless(c api.Call) {
	w.t.Helper()
	table := locks.New(api.Locks)
	table.Take(0, 9)
	table.Take(1, 9)
	steps, was := w.region.Steps(), w.now()
	x := env.New(w.region, table, c.Who, deeds.Deed(w.g, w.heap, c))
	s := x.Step()
	is := w.now()
	if s != env.Over || !x.Over() || x.Steps() != 0 || w.region.Steps() != steps || table.Taken() != 2 {
		w.t.Fatalf("%+v: %d, %d steps", c, s, x.Steps())
	}
	if !slices.Equal(is.words, was.words) || !slices.Equal(is.heads, was.heads) || !same(is.shelves, was.shelves) {
		w.t.Fatalf("%+v: turns something without a step", c)
	}
}
