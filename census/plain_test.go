package census_test

import (
	"slices"
	"testing"

	"trencher/api"
	"trencher/census"
	"trencher/heap"
)

// What the tests hold the package against: blocks, what is reached and what is free, read word by word, and list by list.

// The geometries that most is tried in: those at the edges, and some between.
var (
	least  = api.Geometry{Spans: 1, Lanes: 1, Roots: 1}
	middle = api.Geometry{Spans: 6, Lanes: 3, Roots: 4}
	most   = api.Geometry{Spans: 16, Lanes: 4, Roots: 8}
)

// few are some of them.
func few() []api.Geometry {
	return []api.Geometry{least, middle, most, {Spans: 2, Lanes: 1, Roots: 8}, {Spans: 3, Lanes: 4, Roots: 2}, {Spans: 9, Lanes: 2, Roots: 3}}
}

// everyGeometry are all that may be.
func everyGeometry() []api.Geometry {
	var l []api.Geometry
	for i := range 16 * 4 * 8 {
		l = append(l, api.Geometry{Spans: i/32 + 1, Lanes: i/8%4 + 1, Roots: i%8 + 1})
	}
	return l
}

// Where the parts of a region begin, and how many words it has.
func rootAt(i int) int                    { return 8 + i }
func laneAt(n int) int                    { return 16 + 40*n }
func headAt(g api.Geometry, span int) int { return 16 + 40*g.Lanes + 8*span }
func spanAt(g api.Geometry, span int) int { return 16 + 40*g.Lanes + 8*g.Spans + 64*span }
func total(g api.Geometry) int            { return 16 + 40*g.Lanes + 72*g.Spans }

// size is how many words a block of a class from 0 to 3 has.
func size(class int) int { return 2 << class }

// chance makes what tells numbers below one that look as if they were by chance, the same each time.
func chance(seed int) func(below int) int {
	x := 0x2545f4914f6cdd1d + uint64(seed)*0x9e3779b97f4a7c15
	return func(below int) int {
		x = x*6364136223846793005 + 1442695040888963407
		return int((x ^ x>>31) >> 8 % uint64(below))
	}
}

// headsOf are the heads that words tell, by their lowest fields.
func headsOf(g api.Geometry, words []uint64) []api.Head {
	var l []api.Head
	for span := range g.Spans {
		w := int(words[headAt(g, span)] & 0xff)
		l = append(l, api.Head{Kind: w % 4, Class: w / 4 % 8, Many: w / 32})
	}
	return l
}

// block is where a block begins, its span, which of that span's it is, and how many words it has.
type block struct{ at, span, index, words int }

// blocksOf are the blocks of whole spans, rising.
func blocksOf(g api.Geometry, words []uint64) []block {
	var l []block
	heads := headsOf(g, words)
	for span, h := range heads {
		switch h.Kind {
		case 1:
			for i := range 64 / size(h.Class) {
				l = append(l, block{spanAt(g, span) + i*size(h.Class), span, i, size(h.Class)})
			}
		case 2:
			there := 1
			for span+there < g.Spans && there < h.Many && heads[span+there] == (api.Head{Kind: 3, Class: 4, Many: there}) {
				there++
			}
			if there == h.Many {
				l = append(l, block{spanAt(g, span), span, 0, 64 * there})
			}
		}
	}
	return l
}

// objectsOf are where the objects are that roots lead to, in an image that can be marked, and how many words they have.
func objectsOf(g api.Geometry, words []uint64) map[int]int {
	objects := map[int]int{}
	todo := slices.Clone(words[8 : 8+g.Roots])
	for len(todo) > 0 {
		at := int(todo[0])
		todo = todo[1:]
		if at == 0 || objects[at] > 0 {
			continue
		}
		objects[at] = int(words[at] >> 24)
		todo = append(todo, words[at+1:at+1+int(words[at]>>16%256)]...)
	}
	return objects
}

// freeOf is how often each address is in a heap's lists and caches.
func freeOf(h *heap.Heap) map[int]int {
	free := map[int]int{}
	for class := range 4 {
		lists := [][]int{h.List(class)}
		for lane := range 4 {
			lists = append(lists, h.Cache(lane, class))
		}
		for _, at := range slices.Concat(lists...) {
			free[at]++
		}
	}
	return free
}

// is says what a block is: by how often it is free (not at all, once, more often), and by whether its bit is 0, it is 1 and nothing reaches the block, or something does.
var is = [3][3]int{
	{api.BlockLost, api.BlockGarbage, api.BlockLive},
	{api.BlockFree, api.BlockTwice, api.BlockTwice},
	{api.BlockTwice, api.BlockTwice, api.BlockTwice},
}

// known is what the calls should tell.
type known struct {
	begins, states []int
	count          api.Census
	right          bool
	use            []int
}

// plainly is what they should tell of an image that can be marked, and a heap.
func plainly(g api.Geometry, words []uint64, h *heap.Heap) known {
	free, objects := freeOf(h), objectsOf(g, words)
	k := known{right: slices.Equal(headsOf(g, words), h.Heads()), use: make([]int, g.Spans)}
	for _, b := range blocksOf(g, words) {
		taken := int(words[headAt(g, b.span)+1] >> b.index & 1)
		if objects[b.at] > 0 {
			taken = 2
		}
		state := is[min(free[b.at], 2)][taken]
		k.begins, k.states = append(k.begins, b.at), append(k.states, state)
		k.count[state]++
		k.right = k.right && state != 3 && state != 4
		delete(free, b.at)
	}
	k.right = k.right && len(free) == 0
	for at, many := range objects {
		for a := at; a <= at+many; a++ {
			k.use[(a-spanAt(g, 0))/64]++
		}
	}
	return k
}

// shelves are all lists and caches of a heap.
func shelves(h *heap.Heap) [][]int {
	var l [][]int
	for class := range 4 {
		l = append(l, h.List(class))
		for lane := range 4 {
			l = append(l, h.Cache(lane, class))
		}
	}
	return l
}

// unturned notes words and a heap, and makes what checks that they are as they were.
func unturned(t *testing.T, words []uint64, h *heap.Heap) func(what ...any) {
	was, heads, lists := slices.Clone(words), h.Heads(), shelves(h)
	return func(what ...any) {
		t.Helper()
		if !slices.Equal(words, was) {
			t.Fatalf("%v: words turned", what)
		}
		if !slices.Equal(h.Heads(), heads) || !slices.EqualFunc(shelves(h), lists, slices.Equal) {
			t.Fatalf("%v: the heap turned", what)
		}
	}
}

// agrees checks that all calls tell of an image that can be marked, and a heap, what they should, and turn neither.
func agrees(t *testing.T, what any, g api.Geometry, words []uint64, h *heap.Heap) known {
	t.Helper()
	check := unturned(t, words, h)
	k := plainly(g, words, h)
	begins, states, ok := census.States(words, h)
	if !ok || !slices.Equal(begins, k.begins) || !slices.Equal(states, k.states) {
		t.Fatalf("%v: blocks %v are %v, %v; not %v, %v", what, begins, states, ok, k.begins, k.states)
	}
	check(what, "States")
	if got := census.Count(words, h); got != k.count {
		t.Fatalf("%v: %v, not %v", what, got, k.count)
	}
	check(what, "Count")
	if got := census.Right(words, h); got != k.right {
		t.Fatalf("%v: right %v, not %v", what, got, k.right)
	}
	check(what, "Right")
	if got := census.Use(words); !slices.Equal(got, k.use) {
		t.Fatalf("%v: use %v, not %v", what, got, k.use)
	}
	check(what, "Use")
	return k
}

// without checks that there are no states.
func without(t *testing.T, what any, words []uint64, h *heap.Heap) {
	t.Helper()
	check := unturned(t, words, h)
	if begins, states, ok := census.States(words, h); ok || len(begins) > 0 || len(states) > 0 {
		t.Fatalf("%v: blocks %v are %v, %v", what, begins, states, ok)
	}
	if got := census.Count(words, h); got != (api.Census{}) {
		t.Fatalf("%v: %v", what, got)
	}
	if census.Right(words, h) {
		t.Fatalf("%v: right", what)
	}
	check(what)
}

// corrupt checks that words tell nothing, beside any heap.
func corrupt(t *testing.T, what any, words []uint64, heaps ...*heap.Heap) {
	t.Helper()
	for _, h := range append(heaps, nil) {
		without(t, what, words, h)
	}
	was := slices.Clone(words)
	if use := census.Use(words); len(use) > 0 || !slices.Equal(words, was) {
		t.Fatalf("%v: use %v", what, use)
	}
}
