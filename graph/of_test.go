package graph_test

import (
	"math"
	"slices"
	"testing"

	"trencher/api"
	"trencher/entry"
	"trencher/graph"
	"trencher/image"
	"trencher/mark"
)

// The chapter's example, and fresh images of all geometries.
func TestP22_1Example(t *testing.T) {
	shaped(t, fresh(t, least), 1, 0, 0)
	for _, g := range everyGeometry() {
		got := fresh(t, g)
		if len(got.Nodes) != 0 || !slices.Equal(got.Roots, make([]int, g.Roots)) {
			t.Fatalf("%v: %+v", g, got)
		}
		shaped(t, got, append(append([]uint64{uint64(g.Roots)}, make([]uint64, g.Roots)...), 0)...)
		tells(t, got, nil, 0, false)
	}
}

// fresh is the graph of a fresh image.
func fresh(t *testing.T, g api.Geometry) api.Graph {
	t.Helper()
	got, code := graph.Of(image.Fresh(g))
	if code != api.OK {
		t.Fatalf("%v: %d", g, code)
	}
	return got
}

// Calls by chance, on several geometries, with power that fails between them: behind each there is the graph that the same calls leave in the plain model.
func TestP22_1Scripts(t *testing.T) {
	for _, g := range few() {
		for seed := range 12 {
			m := &maker{formatted(t, g), chance(seed)}
			for turn := range 120 {
				m.call()
				got := m.tr.right(turn)
				agrees(t, turn, got)
				if m.next(40) == 0 {
					m.tr.fails()
					m.tr.right("behind opening")
				}
			}
		}
	}
}

// A graph that is written out: several roots, objects of several classes and of several spans, one that several others point to, one that points to itself.
func TestP22_1Scene(t *testing.T) {
	tr := formatted(t, middle)
	a := tr.makes(root(1), 3, 2)
	b := tr.makes(slot(a, 1), 1, 0)
	c := tr.makes(root(3), 130, 3)
	d := tr.makes(slot(c, 2), 15, 15)
	tr.point(root(0), c)
	tr.point(slot(a, 0), b)
	tr.point(slot(d, 14), d)
	tr.point(slot(d, 3), b)
	tr.point(slot(d, 4), a)
	tr.write(a, 0, 7)
	tr.write(c, 126, math.MaxUint64)
	tr.write(b, 0, uint64(c))
	data := make([]uint64, 127)
	data[126] = math.MaxUint64
	want := api.Graph{Roots: to(c, a, 0, c), Nodes: []api.Node{
		{At: a, Object: api.Object{Refs: 2, Slots: 2, Words: 3}, Slots: to(b, b), Data: []uint64{7}},
		{At: b, Object: api.Object{Refs: 3, Slots: 0, Words: 1}, Data: []uint64{uint64(c)}},
		{At: c, Object: api.Object{Refs: 2, Slots: 3, Words: 130}, Slots: to(0, 0, d), Data: data},
		{At: d, Object: api.Object{Refs: 2, Slots: 15, Words: 15}, Slots: to(0, 0, 0, b, a, 0, 0, 0, 0, 0, 0, 0, 0, 0, d)},
	}}
	slices.SortFunc(want.Nodes, func(x, y api.Node) int { return x.At - y.At })
	got := tr.right("scene")
	if !same(got, want) {
		t.Fatalf("%+v, not %+v", got, want)
	}
	tells(t, got, to(c, d, b, a), 2, true)
	shape := append([]uint64{4, 1, 4, 0, 1, 4, 2, 130, 3, 0, 0, 2, 127}, data...)
	shape = append(shape, 2, 15, 15, 0, 0, 0, 3, 4, 0, 0, 0, 0, 0, 0, 0, 0, 0, 2, 0)
	shape = append(shape, 3, 1, 0, 1, uint64(c), 2, 3, 2, 3, 3, 1, 7)
	shaped(t, got, shape...)
}

// Objects of each size, with no slots, with no data, and with some of both.
func TestP22_1Sizes(t *testing.T) {
	for words := 1; words <= 255; words++ {
		for _, slots := range []int{0, 1, words / 2, words - 1, words} {
			if slots > words {
				continue
			}
			tr := formatted(t, api.Geometry{Spans: 4, Lanes: 1, Roots: 2})
			at := tr.makes(root(1), words, slots)
			for i := range slots {
				if i%3 != 1 {
					tr.point(slot(at, i), at)
				}
			}
			for i := range words - slots {
				tr.write(at, i, uint64(i)*0x9e3779b97f4a7c15+1)
			}
			if got := tr.right(words); len(got.Nodes) != 1 || len(got.Nodes[0].Slots) != slots || len(got.Nodes[0].Data) != words-slots {
				t.Fatalf("%d words, %d slots: %+v", words, slots, got)
			}
		}
	}
}

// A chain as long as there is room, its ends moved from root to root.
func TestP22_1Chains(t *testing.T) {
	for _, g := range few() {
		tr := formatted(t, g)
		ahead := root(g.Roots - 1)
		var chain []int
		for at := tr.tried(ahead, 1, 1); at != 0; at = tr.tried(ahead, 1, 1) {
			chain = append(chain, at)
			ahead = slot(at, 0)
		}
		if len(chain) != 32*g.Spans {
			t.Fatalf("%v: %d objects", g, len(chain))
		}
		tells(t, tr.right("chain"), chain, len(chain), false)
		half := len(chain) / 2
		tr.point(root(0), chain[half])
		if g.Roots > 1 {
			tells(t, tr.right("two ends"), append(slices.Clone(chain[half:]), chain[:half]...), half, false)
		} else {
			tells(t, tr.right("half"), chain[half:], half, false)
		}
		tr.point(slot(chain[len(chain)-1], 0), chain[half])
		if got := tr.right("ring"); !graph.Loops(got) || graph.Depth(got) != half {
			t.Fatalf("%v: %d, %v", g, graph.Depth(got), graph.Loops(got))
		}
	}
}

// A tree: what is nearer to the root, and farther to the left, comes ahead.
func TestP22_1Trees(t *testing.T) {
	tr := formatted(t, middle)
	var order []int
	var grow func(d api.Dest, depth int)
	grow = func(d api.Dest, depth int) {
		at := tr.makes(d, 3, 2+depth%2)
		order = append(order, at)
		for i := range (2 + depth%2) * min(depth, 1) {
			grow(slot(at, i), depth-1)
		}
	}
	grow(root(2), 4)
	if len(order) != 1+2+6+12+36 {
		t.Fatal(len(order))
	}
	tells(t, tr.right("tree"), order, 5, false)
}

// Objects that several roots point to, and each root.
func TestP22_1Roots(t *testing.T) {
	for roots := 1; roots <= 8; roots++ {
		tr := formatted(t, api.Geometry{Spans: 1, Lanes: 1, Roots: roots})
		at := tr.makes(root(0), 2, 1)
		for i := 1; i < roots; i++ {
			tr.point(root(i), at)
			if got := tr.right(i); got.Nodes[0].Object.Refs != i+1 {
				t.Fatalf("%d roots: %+v", i+1, got)
			}
		}
		tr.point(slot(at, 0), at)
		for i := range roots {
			tr.point(root(i), 0)
			tr.right(i)
		}
	}
}

// Behind what nothing reaches there is nothing in a graph: neither objects, nor pointers to those that are reached, whatever their first words count.
func TestP22_1Unreached(t *testing.T) {
	tr := formatted(t, middle)
	a := tr.makes(root(0), 2, 1)
	b := tr.makes(root(1), 3, 3)
	tr.point(slot(b, 0), a)
	tr.point(slot(b, 1), a)
	tr.point(slot(b, 2), b)
	if got := tr.right("reached"); len(got.Nodes) != 2 || got.Nodes[find(got, a)].Object.Refs != 3 {
		t.Fatalf("%+v", got)
	}
	tr.point(root(1), 0)
	got := tr.right("unreached")
	if len(got.Nodes) != 1 || got.Nodes[0].Object != (api.Object{Refs: 1, Slots: 1, Words: 2}) {
		t.Fatalf("%+v", got)
	}
	if tr.words()[a]%65536 != 3 {
		t.Fatal("the first word doesn't count what nothing reaches")
	}
	// What isn't reached may be anything.
	words := tr.words()
	for i := range 4 {
		words[b+i] = math.MaxUint64
	}
	if again, code := graph.Of(words); code != api.OK || !same(got, again) {
		t.Fatalf("%+v, %d", again, code)
	}
}

// Refs are counted, whatever the first words say of them.
func TestP22_1Refs(t *testing.T) {
	tr := formatted(t, middle)
	a := tr.makes(root(0), 2, 1)
	b := tr.makes(slot(a, 0), 130, 2)
	tr.point(slot(b, 1), b)
	want := tr.right("as they are")
	for _, refs := range []uint64{0, 1, 2, 7, 65534, 65535} {
		words := tr.words()
		for _, at := range to(a, b) {
			words[at] = words[at]/65536*65536 + refs
		}
		if got, code := graph.Of(words); code != api.OK || !same(got, want) {
			t.Fatalf("%d: %+v, %d", refs, got, code)
		}
	}
}

// Data that look like anything are told as they are, and lead nowhere.
func TestP22_1Data(t *testing.T) {
	for _, x := range []uint64{0, 1, 64, 76, 1 << 24, 1<<24 + 1<<16 + 1, 1 << 63, math.MaxUint64, math.MaxInt64} {
		tr := formatted(t, least)
		at := tr.makes(root(0), 3, 1)
		tr.write(at, 0, x)
		tr.write(at, 1, x+1)
		got := tr.right(x)
		shaped(t, got, 1, 1, 1, 1, 3, 1, 0, 2, x, x+1)
		tells(t, got, to(at), 1, false)
	}
}

// An image is told as it stands: no lane is replayed, whether its log counts or not.
func TestP22_1AsItStands(t *testing.T) {
	tr := formatted(t, middle)
	a := tr.makes(root(0), 2, 1)
	b := tr.makes(root(1), 3, 1)
	want := tr.right("as it stands")
	log := []api.Entry{{At: rootAt(2), X: uint64(b)}, {At: a + 1, X: uint64(b)}, {At: rootAt(0), X: 65}}
	for lane := range middle.Lanes {
		for _, seal := range []uint64{entry.Seal(log), 77} {
			words := tr.words()
			copy(words[laneAt(lane)+8:], entry.Words(log))
			words[laneAt(lane)] = seal
			if got, code := graph.Of(words); code != api.OK || !same(got, want) {
				t.Fatalf("lane %d: %+v, %d", lane, got, code)
			}
		}
	}
}

// corrupt checks that words have no graph, and nothing is told beside that.
func corrupt(t *testing.T, what any, words []uint64) {
	t.Helper()
	was := slices.Clone(words)
	if got, code := graph.Of(words); code != api.ErrCorrupt || got.Roots != nil || got.Nodes != nil {
		t.Fatalf("%v: %+v, %d", what, got, code)
	}
	if !slices.Equal(words, was) {
		t.Fatalf("%v: words turned", what)
	}
}

// Words that are no image's: none, fewer or more than the superblock tells, of another superblock, arbitrary ones.
func TestP22_1NoImage(t *testing.T) {
	corrupt(t, "nil", nil)
	corrupt(t, "none", []uint64{})
	for _, g := range few() {
		tr := formatted(t, g)
		tr.makes(root(0), 2, 1)
		words := tr.words()
		for n := range words {
			corrupt(t, n, words[:n])
		}
		for _, more := range to(1, 7, 8, 64, 72, 16384) {
			corrupt(t, more, append(slices.Clone(words), make([]uint64, more)...))
		}
		for at := range 8 {
			for bit := range 64 {
				other := slices.Clone(words)
				other[at] ^= 1 << bit
				corrupt(t, bit, other)
			}
		}
		corrupt(t, "nothing", make([]uint64, len(words)))
		copy(words, image.Fresh(api.Geometry{Spans: g.Spans, Lanes: g.Lanes, Roots: g.Roots%8 + 1})[:7])
		corrupt(t, "another superblock", words)
	}
	next := chance(5)
	for n := range 600 {
		words := make([]uint64, n)
		for i := range words {
			words[i] = uint64(next(1<<62)) << next(63)
		}
		corrupt(t, n, words)
	}
}

// Images whose superblock fits, and which can't be marked: by a root, by a slot of what is reached, by an object's first word, by a bit, by heads.
func TestP22_1NoMarks(t *testing.T) {
	tr := formatted(t, middle)
	a := tr.makes(root(0), 3, 2)
	b := tr.makes(slot(a, 0), 130, 3)
	c := tr.makes(slot(b, 2), 1, 1)
	ends := []uint64{1, 7, uint64(rootAt(0)), uint64(a + 1), uint64(b + 64), uint64(b + 4), uint64(spanAt(middle, 5)), uint64(total(middle)), uint64(total(middle) + 1), 16384, 1 << 31, 1 << 32, 1<<32 + uint64(a), 1<<63 + uint64(a), 1 << 63, math.MaxUint64, math.MaxInt64}
	for _, x := range ends {
		for _, at := range to(rootAt(0), rootAt(1), rootAt(3), a+1, a+2, b+1, b+3, c+1) {
			words := tr.words()
			words[at] = x
			corrupt(t, x, words)
		}
	}
	for _, at := range to(a, b, c) {
		for _, x := range []uint64{0, 1, 1<<24 + 2<<16, 16 << 24, 7<<24 + 1, 1 << 32, 1<<32 + 3<<24, math.MaxUint64} {
			words := tr.words()
			words[at] = x
			corrupt(t, x, words)
		}
	}
	for span := range middle.Spans {
		words := tr.words()
		words[headAt(middle, span)] = 77
		corrupt(t, span, words)
	}
	for _, at := range to(a, b, c) {
		words := tr.words()
		words[headAt(middle, (at-spanAt(middle, 0))/64)+1] = 0
		corrupt(t, at, words)
		words = tr.words()
		words[headAt(middle, (at-spanAt(middle, 0))/64)] = 0
		corrupt(t, at, words)
	}
}

// rawly is a graph read from words that can be marked, without any layer's help.
func rawly(g api.Geometry, words []uint64) api.Graph {
	var r api.Graph
	for i := range g.Roots {
		r.Roots = append(r.Roots, int(words[rootAt(i)]))
	}
	refs := map[int]int{}
	lists := [][]int{r.Roots}
	for i := 0; i < len(lists); i++ {
		for _, at := range lists[i] {
			if refs[at]++; at == 0 || refs[at] > 1 {
				continue
			}
			slots, many := int(words[at]>>16%256), int(words[at]>>24)
			n := api.Node{At: at, Object: api.Object{Slots: slots, Words: many}, Data: words[at+1+slots : at+1+many]}
			for _, next := range words[at+1 : at+1+slots] {
				n.Slots = append(n.Slots, int(next))
			}
			r.Nodes = append(r.Nodes, n)
			lists = append(lists, n.Slots)
		}
	}
	for i, n := range r.Nodes {
		r.Nodes[i].Object.Refs = refs[n.At]
	}
	slices.SortFunc(r.Nodes, func(x, y api.Node) int { return x.At - y.At })
	return r
}

// Images of which any words were turned: their graph, or none, just as they can be marked, or can't.
func TestP22_1AnyWords(t *testing.T) {
	kept, lost := 0, 0
	for seed := range 300 {
		m := &maker{formatted(t, few()[seed%6]), chance(seed + 900)}
		for range 30 {
			m.call()
		}
		for range 20 {
			words := m.tr.words()
			for range 1 + m.next(3) {
				at := 8 + m.next(len(words)-8)
				words[at] = []uint64{words[at] ^ 1<<m.next(64), 0, uint64(m.target()), uint64(m.next(len(words)))}[m.next(4)]
			}
			if _, code := mark.Reach(m.tr.pool.Geometry(), words); code != api.OK {
				corrupt(t, seed, words)
				lost++
				continue
			}
			kept++
			if got, code := graph.Of(words); code != api.OK || !same(got, rawly(m.tr.pool.Geometry(), words)) {
				t.Fatalf("%d: %+v, %d, not %+v", seed, got, code, rawly(m.tr.pool.Geometry(), words))
			}
		}
	}
	if kept < 100 || lost < 100 {
		t.Fatal(kept, lost)
	}
}
