package addr_test

import (
	"math"
	"slices"
	"testing"

	"trencher/addr"
	"trencher/api"
)

// free is the head of a span that is free.
var free = api.Head{}

// small is the head of a span whose blocks are of a class.
func small(class int) api.Head {
	return api.Head{Kind: 1, Class: class}
}

// large is the head of the first span of a block of so many.
func large(many int) api.Head {
	return api.Head{Kind: 2, Class: 4, Many: many}
}

// more is the head of a span that is so many behind the first one of its block.
func more(many int) api.Head {
	return api.Head{Kind: 3, Class: 4, Many: many}
}

// every has all heads that may be.
func every() []api.Head {
	return []api.Head{
		free,
		small(0), small(1), small(2), small(3),
		large(1), large(2), large(3), large(4),
		more(1), more(2), more(3),
	}
}

// block has the heads of a large block's spans.
func block(many int) []api.Head {
	l := []api.Head{large(many)}
	for k := 1; k < many; k++ {
		l = append(l, more(k))
	}
	return l
}

// join has lists of heads, one behind the other, as new memory.
func join(lists ...[]api.Head) []api.Head {
	return slices.Concat(lists...)
}

// of is a list of these heads.
func of(heads ...api.Head) []api.Head {
	return heads
}

// A found is where a block begins, and its spot.
type found struct {
	at   int
	spot api.Spot
}

// A region is a geometry, and the heads of its spans.
type region struct {
	g     api.Geometry
	heads []api.Head
}

// with is a region that has just the spans of these heads.
func with(lanes, roots int, heads []api.Head) region {
	return region{api.Geometry{Spans: len(heads), Lanes: lanes, Roots: roots}, heads}
}

// heapAt is where the heap begins: behind the superblock, the roots' line, the lanes and the heads.
func heapAt(g api.Geometry) int {
	return 8 + 8 + 40*g.Lanes + 8*g.Spans
}

// total is how many words the region has.
func total(g api.Geometry) int {
	return heapAt(g) + 64*g.Spans
}

// plainWhole tells whether a span is whole.
func plainWhole(heads []api.Head, span int) bool {
	if span < 0 || span >= len(heads) {
		return false
	}
	switch h := heads[span]; h.Kind {
	case 1:
		return true
	case 2:
		return len(heads)-span >= h.Many && slices.Equal(heads[span:span+h.Many], block(h.Many))
	}
	return false
}

// plain has all blocks of all whole spans of a region that may be, laid span by span, as the document's Words have them.
func plain(r region) []found {
	var l []found
	for span, h := range r.heads {
		if !plainWhole(r.heads, span) {
			continue
		}
		begin := heapAt(r.g) + 64*span
		if h.Kind == 2 {
			l = append(l, found{begin, api.Spot{Span: span, Words: 64 * h.Many}})
			continue
		}
		words := []int{2, 4, 8, 16}[h.Class]
		for at := begin; at < begin+64; at += words {
			l = append(l, found{at, api.Spot{Span: span, Index: (at - begin) / words, Words: words}})
		}
	}
	return l
}

// wholes checks which spans are whole, of each span of a region, and of some around them.
func wholes(t *testing.T, r region) {
	for span := -5; span < len(r.heads)+5; span++ {
		if got, want := addr.Whole(r.g, r.heads, span), plainWhole(r.heads, span); got != want {
			t.Helper()
			t.Fatalf("%v, %d: whole %t, not %t", r, span, got, want)
		}
	}
}

// spots checks which addresses are told as blocks' beginnings, of each address of a region, and of some around them.
func spots(t *testing.T, r region) {
	want := map[int]api.Spot{}
	for _, b := range plain(r) {
		want[b.at] = b.spot
	}
	for a := -70; a < total(r.g)+70; a++ {
		spot, is := want[a]
		if got, ok := addr.Spot(r.g, r.heads, a); got != spot || ok != is {
			t.Helper()
			t.Fatalf("%v, %d: %v, %t, not %v", r, a, got, ok, spot)
		}
	}
}

// addrs checks where blocks begin, of each index of each span of a region, and of some around them.
func addrs(t *testing.T, r region) {
	want := map[[2]int]int{}
	for _, b := range plain(r) {
		want[[2]int{b.spot.Span, b.spot.Index}] = b.at
	}
	for span := -2; span < len(r.heads)+2; span++ {
		for index := -2; index < 34; index++ {
			at, is := want[[2]int{span, index}]
			if !is {
				at = -1
			}
			if got := addr.Addr(r.g, r.heads, span, index); got != at {
				t.Helper()
				t.Fatalf("%v, %d, %d: %d, not %d", r, span, index, got, at)
			}
		}
	}
}

// alls checks where all blocks begin.
func alls(t *testing.T, r region) {
	var want []int
	for _, b := range plain(r) {
		want = append(want, b.at)
	}
	if got := addr.All(r.g, r.heads); !slices.Equal(got, want) {
		t.Helper()
		t.Fatalf("%v: %v, not %v", r, got, want)
	}
}

// withins checks in which block it is, of each address of a region, and of some around them.
func withins(t *testing.T, r region) {
	want := map[int]int{}
	for _, b := range plain(r) {
		for off := range b.spot.Words {
			want[b.at+off] = b.at
		}
	}
	for a := -70; a < total(r.g)+70; a++ {
		at, is := want[a]
		if !is {
			at = -1
		}
		if got := addr.Within(r.g, r.heads, a); got != at {
			t.Helper()
			t.Fatalf("%v, %d: in %d, not %d", r, a, got, at)
		}
	}
}

// nothing checks that there is no answer: neither a whole span nor a block, whatever is asked.
func nothing(t *testing.T, g api.Geometry, heads []api.Head) {
	t.Helper()
	for _, span := range []int{0, 1, len(heads) / 2, len(heads) - 1, len(heads), -1, g.Spans - 1} {
		if addr.Whole(g, heads, span) {
			t.Fatalf("%v, %v: %d is whole", g, first(heads), span)
		}
		for _, index := range []int{0, 1, 3, -1} {
			if got := addr.Addr(g, heads, span, index); got != -1 {
				t.Fatalf("%v, %v, %d, %d: %d", g, first(heads), span, index, got)
			}
		}
	}
	for _, a := range []int{-1, 0, 8, 16, 56, 64, 66, 68, 72, 80, 88, 90, 96, 104, 152, 304, 307, 344, 1343, 1400} {
		if got, ok := addr.Spot(g, heads, a); got != (api.Spot{}) || ok {
			t.Fatalf("%v, %v, %d: %v, %t", g, first(heads), a, got, ok)
		}
		if got := addr.Within(g, heads, a); got != -1 {
			t.Fatalf("%v, %v, %d: in %d", g, first(heads), a, got)
		}
	}
	if got := addr.All(g, heads); len(got) != 0 {
		t.Fatalf("%v, %v: %v", g, first(heads), got)
	}
}

// first are the heads, up to those that are still to be read in a message.
func first(heads []api.Head) []api.Head {
	return heads[:min(len(heads), 20)]
}

// lists yields each list of so many heads that may be, always in the same memory.
func lists(many int) func(yield func(heads []api.Head) bool) {
	return func(yield func(heads []api.Head) bool) {
		heads := make([]api.Head, many)
		var fill func(at int) bool
		fill = func(at int) bool {
			if at == many {
				return yield(heads)
			}
			for _, h := range every() {
				heads[at] = h
				if !fill(at + 1) {
					return false
				}
			}
			return true
		}
		fill(0)
	}
}

// broken are large blocks of which something isn't right: one of the others is another head, lacks, is told twice, or stands elsewhere, at each place.
func broken() [][]api.Head {
	var l [][]api.Head
	for many := 2; many <= 4; many++ {
		for at := 1; at < many; at++ {
			b := block(many)
			for _, h := range every() {
				if h != b[at] {
					l = append(l, join(b[:at], of(h), b[at+1:]))
				}
			}
			l = append(l, join(b[:at], b[at+1:]))
			l = append(l, join(b[:at], b[at:at+1], b[at:]))
			l = append(l, join(b[:at], b[at:at+1], b[at:many-1]))
			for other := range at {
				turned := block(many)
				turned[at], turned[other] = turned[other], turned[at]
				l = append(l, turned)
			}
		}
		turned := block(many)
		slices.Reverse(turned[1:])
		l = append(l, turned)
		slices.Reverse(turned)
		l = append(l, turned)
		l = append(l, block(many)[1:])
	}
	return l
}

// mixed are lists of heads that have everything: as many as there may be, and some fewer.
func mixed() [][]api.Head {
	return [][]api.Head{
		join(of(free, small(0)), block(4), of(small(1)), block(3), of(small(2), free), block(1), block(2), of(small(3))),
		join(of(small(3), small(2), small(1), small(0), free, free), block(2), block(2), block(4), block(1), of(small(0))),
		join(block(4), block(4), block(4), block(4)),
		join(block(1), block(2), block(3), block(4), block(3), block(2), block(1)),
		join(of(small(0)), block(3), block(3), block(3), block(3), block(3)),
		slices.Repeat(of(small(0)), 16),
		slices.Repeat(of(small(1)), 16),
		slices.Repeat(of(small(2)), 16),
		slices.Repeat(of(small(3)), 16),
		slices.Repeat(block(1), 16),
		slices.Repeat(block(2), 8),
		slices.Repeat(of(free), 16),
		slices.Repeat(of(large(2)), 16),
		slices.Repeat(of(large(4), more(1), more(2)), 5),
		slices.Repeat(of(more(1), more(2), more(3)), 5),
		join(slices.Repeat(of(free), 15), of(small(0))),
		join(slices.Repeat(of(free), 12), block(4)),
		join(slices.Repeat(of(free), 13), block(4)[:3]),
		join(slices.Repeat(of(small(3)), 15), of(large(2))),
		join(slices.Repeat(of(small(0)), 15), of(large(1))),
		join(block(3), of(more(3)), block(2), of(more(2), more(3))),
		join(of(more(1), more(2), more(3)), block(4), of(more(1), small(1))),
	}
}

// regions are those that each call is held against, address by address.
func regions() []region {
	var l []region
	for i, h := range every() {
		l = append(l, with(1+i%4, 1+i%8, of(h)))
	}
	for heads := range lists(2) {
		l = append(l, with(1+len(l)%4, 1+len(l)%8, slices.Clone(heads)))
	}
	for many := 1; many <= 4; many++ {
		for _, h := range every() {
			l = append(l, with(1, 1, block(many)), with(2, 8, join(of(h), block(many))), with(4, 3, join(block(many), of(h))))
			l = append(l, with(3, 2, join(of(small(3), h), block(many))), with(1, 5, join(block(many), of(h, small(2)))))
		}
	}
	for _, b := range broken() {
		l = append(l, with(1, 1, b), with(2, 2, join(of(small(3)), b, of(small(2)))))
		l = append(l, with(1, 4, join(block(2), b)), with(1, 7, join(b, block(2))))
	}
	for i, heads := range mixed() {
		l = append(l, with(1+i%4, 1+i%8, heads))
	}
	return l
}

// numbers are some far below 0, and some far beyond anything: of these the lowest bits alone would be right, or wrapped round would be as many words as lead to a block.
func numbers() []int {
	l := []int{math.MinInt, math.MinInt + 1, math.MaxInt, math.MaxInt - 1, math.MinInt32, math.MaxInt32, math.MaxUint32}
	for bit := 12; bit < 64; bit++ {
		x := 1 << bit
		for _, n := range []int{0, 1, 2, 3, 8, 64, 88, 104, 152} {
			l = append(l, x+n, x-n, -x+n, -x-n)
		}
	}
	return l
}

// wrongCounts are numbers of which there are none of anything that has so many at most.
func wrongCounts(most int) []int {
	l := []int{0, -1, -2, -most, -most - 1, most + 1, most + 2, 2 * most, 255, 256, 257}
	for _, bit := range []int{5, 6, 7, 8, 16, 31, 32, 62} {
		for _, n := range []int{1, 4, most} {
			l = append(l, 1<<bit+n, -1<<bit+n)
		}
	}
	return append(l, math.MinInt, math.MinInt+1, math.MinInt+4, math.MaxInt, math.MaxInt-3)
}

// noGeometries are some that may not be: with one number that is wrong, with two, and with three.
func noGeometries() []api.Geometry {
	l := []api.Geometry{{}, {Spans: 17, Lanes: 5, Roots: 9}, {Spans: -1, Lanes: -1, Roots: -1}, {Spans: 4, Lanes: 8, Roots: 4}, {Spans: 4, Lanes: 4, Roots: 16}}
	for _, spans := range []int{1, 4, 16} {
		for _, n := range wrongCounts(4) {
			l = append(l, api.Geometry{Spans: spans, Lanes: n, Roots: 1}, api.Geometry{Spans: spans, Lanes: n, Roots: n})
		}
		for _, n := range wrongCounts(8) {
			if n < 1 || n > 8 {
				l = append(l, api.Geometry{Spans: spans, Lanes: 1, Roots: n})
			}
		}
	}
	for _, n := range wrongCounts(16) {
		if n < 1 || n > 16 {
			l = append(l, api.Geometry{Spans: n, Lanes: 1, Roots: 1}, api.Geometry{Spans: n, Lanes: 4, Roots: 8}, api.Geometry{Spans: n, Lanes: n, Roots: n})
		}
	}
	return l
}

// noHeads are heads that may not be: those beside the edges, those that mix kinds, and some of which the lowest bits alone would be right.
func noHeads() []api.Head {
	l := []api.Head{
		{Class: 1}, {Many: 1}, {Class: 4}, {Class: 4, Many: 1}, {Class: -1}, {Many: -1},
		{Kind: 1, Class: 4}, {Kind: 1, Class: 5}, {Kind: 1, Class: 9}, {Kind: 1, Class: -1}, {Kind: 1, Class: -4}, {Kind: 1, Many: 1}, {Kind: 1, Class: 3, Many: -1}, {Kind: 1, Class: 4, Many: 1},
		{Kind: 2}, {Kind: 2, Class: 4}, {Kind: 2, Class: 4, Many: -1}, {Kind: 2, Class: 4, Many: 5}, {Kind: 2, Class: 3, Many: 1}, {Kind: 2, Class: 5, Many: 1}, {Kind: 2, Many: 1}, {Kind: 2, Class: -4, Many: 1},
		{Kind: 3}, {Kind: 3, Class: 4}, {Kind: 3, Class: 4, Many: -1}, {Kind: 3, Class: 4, Many: 4}, {Kind: 3, Class: 3, Many: 1}, {Kind: 3, Class: 0, Many: 1},
		{Kind: 4}, {Kind: 4, Class: 4, Many: 1}, {Kind: 5}, {Kind: -1}, {Kind: -2, Class: 4, Many: 1}, {Kind: -3},
	}
	for _, h := range every() {
		for _, bit := range []int{3, 8, 16, 32, 63} {
			for _, wrong := range []int{1 << bit, -1 << bit} {
				l = append(l, api.Head{Kind: h.Kind + wrong, Class: h.Class, Many: h.Many})
				l = append(l, api.Head{Kind: h.Kind, Class: h.Class + wrong, Many: h.Many})
				l = append(l, api.Head{Kind: h.Kind, Class: h.Class, Many: h.Many + wrong})
			}
		}
	}
	for _, x := range []int{math.MaxInt, math.MinInt, math.MaxInt32, math.MinInt32} {
		l = append(l, api.Head{Kind: x}, api.Head{Kind: 1, Class: x}, api.Head{Kind: 1, Many: x}, api.Head{Kind: 2, Class: 4, Many: x}, api.Head{Kind: 3, Class: 4, Many: x}, api.Head{Kind: x, Class: x, Many: x})
	}
	return l
}

func TestP11_1Examples(t *testing.T) {
	g := api.Geometry{Spans: 1, Lanes: 1, Roots: 1}
	l := of(small(2))
	if !addr.Whole(g, l, 0) {
		t.Error("not whole")
	}
	if got, ok := addr.Spot(g, l, 72); got != (api.Spot{Span: 0, Index: 1, Words: 8}) || !ok {
		t.Error(got, ok)
	}
}

// Each list of up to four heads.
func TestP11_1WholeEachList(t *testing.T) {
	for many := 1; many <= 4; many++ {
		for heads := range lists(many) {
			wholes(t, with(1+many%4, 1, heads))
		}
	}
}

func TestP11_1Whole(t *testing.T) {
	for _, r := range regions() {
		wholes(t, r)
	}
}

// Which heads are whole: a small one, wherever it is; a large one with all its others; no other.
func TestP11_1WholeKinds(t *testing.T) {
	for spans := 1; spans <= 16; spans++ {
		for at := range spans {
			for _, h := range every() {
				r := with(2, 2, slices.Repeat(of(free), spans))
				r.heads[at] = h
				want := h.Kind == 1 || h == large(1)
				if got := addr.Whole(r.g, r.heads, at); got != want {
					t.Fatalf("%v, %d: %t", r, at, got)
				}
			}
			for many := 1; many <= 4; many++ {
				r := with(1, 8, slices.Repeat(of(free), spans))
				fits := copy(r.heads[at:], block(many)) == many
				if got := addr.Whole(r.g, r.heads, at); got != fits {
					t.Fatalf("%v, %d: %t", r, at, got)
				}
			}
		}
	}
}

func TestP11_1Spot(t *testing.T) {
	for _, r := range regions() {
		spots(t, r)
	}
}

// Of all geometries that may be, the first and the last block of each span.
func TestP11_1SpotEachGeometry(t *testing.T) {
	for spans := 1; spans <= 16; spans++ {
		for lanes := 1; lanes <= 4; lanes++ {
			for roots := 1; roots <= 8; roots++ {
				r := with(lanes, roots, nil)
				r.g.Spans = spans
				for span := range spans {
					r.heads = append(r.heads, []api.Head{small(0), small(3), large(1), small(1), free, small(2)}[span%6])
				}
				spots := map[int]api.Spot{}
				for _, b := range plain(r) {
					spots[b.at] = b.spot
				}
				for span := range spans {
					begin := heapAt(r.g) + 64*span
					for _, a := range []int{begin - 1, begin, begin + 1, begin + 48, begin + 62, begin + 63} {
						want, is := spots[a]
						if got, ok := addr.Spot(r.g, r.heads, a); got != want || ok != is {
							t.Fatalf("%v, %d: %v, %t, not %v", r, a, got, ok, want)
						}
					}
				}
			}
		}
	}
}

// Spans, and addresses, that are far from all that there are.
func TestP11_1Far(t *testing.T) {
	for _, heads := range [][]api.Head{of(small(0)), of(large(1)), join(of(small(3)), block(2), of(small(1))), join(block(4), of(small(0)))} {
		r := with(1, 1, heads)
		for _, n := range numbers() {
			if addr.Whole(r.g, heads, n) {
				t.Fatalf("%v: %d is whole", r, n)
			}
			if got, ok := addr.Spot(r.g, heads, n); got != (api.Spot{}) || ok {
				t.Fatalf("%v, %d: %v, %t", r, n, got, ok)
			}
		}
	}
}

func TestP11_1NoGeometry(t *testing.T) {
	for _, g := range noGeometries() {
		for _, h := range []api.Head{free, small(0), small(3), large(1)} {
			for _, many := range []int{0, 1, 4, 16, 17} {
				nothing(t, g, slices.Repeat(of(h), many))
			}
			if g.Spans > 0 && g.Spans < 300 {
				nothing(t, g, slices.Repeat(of(h), g.Spans))
			}
		}
	}
}

// Too few heads, too many, and none, of geometries that may be.
func TestP11_1OtherCounts(t *testing.T) {
	for spans := 1; spans <= 16; spans++ {
		g := api.Geometry{Spans: spans, Lanes: 1 + spans%4, Roots: 1 + spans%8}
		nothing(t, g, nil)
		nothing(t, g, of())
		for _, many := range []int{1, 2, 3, 4, 5, 8, 15, 16, 17, 18, 31, 32, 33, 255, 256, 257, 260, 272, 65536 + spans, spans - 1, spans + 1, 2 * spans} {
			if many != spans {
				nothing(t, g, slices.Repeat(of(small(3)), many))
				nothing(t, g, slices.Repeat(block(1), many))
				nothing(t, g, slices.Repeat(block(2), many)[:many])
				nothing(t, g, slices.Repeat(of(small(0)), 300)[:many%300])
			}
		}
	}
}

// One head that may not be, at each span.
func TestP11_1NoHead(t *testing.T) {
	for _, heads := range [][]api.Head{of(small(0)), of(small(3), small(2), small(1)), join(of(small(1)), block(2), of(small(0))), mixed()[0], mixed()[9]} {
		r := with(1, 1, slices.Clone(heads))
		for at := range heads {
			for _, h := range noHeads() {
				if len(heads) == 16 && at != 0 && at != 7 && at != 15 {
					continue
				}
				r.heads[at] = h
				nothing(t, r.g, r.heads)
			}
			r.heads[at] = heads[at]
		}
		alls(t, r)
	}
}

func TestP11_2Examples(t *testing.T) {
	g := api.Geometry{Spans: 1, Lanes: 1, Roots: 1}
	l := of(small(2))
	if got := addr.All(g, l); !slices.Equal(got, []int{64, 72, 80, 88, 96, 104, 112, 120}) {
		t.Error(got)
	}
	for i := range 8 {
		if got := addr.Addr(g, l, 0, i); got != 64+8*i {
			t.Error(i, got)
		}
	}
}

func TestP11_2Addr(t *testing.T) {
	for _, r := range regions() {
		addrs(t, r)
	}
}

// The last index of each kind of span, and the one behind it, of the first span and of the last.
func TestP11_2AddrLast(t *testing.T) {
	g := api.Geometry{Spans: 16, Lanes: 4, Roots: 8}
	for class, many := range []int{32, 16, 8, 4, 1} {
		l := slices.Repeat(of(free), 16)
		for _, span := range []int{0, 15} {
			l[span] = small(class)
			if class == 4 {
				l[span] = large(1)
			}
			if got, want := addr.Addr(g, l, span, many-1), 304+64*span+64-64/many; got != want {
				t.Error(class, span, got, want)
			}
			for _, index := range []int{many, many + 1, 2 * many, -1, -many} {
				if got := addr.Addr(g, l, span, index); got != -1 {
					t.Error(class, span, index, got)
				}
			}
		}
	}
}

// Spans and indexes that are far from all that there are, each beside right ones, and beside one another.
func TestP11_2AddrFar(t *testing.T) {
	for _, heads := range [][]api.Head{of(small(0)), join(of(small(3)), block(2))} {
		r := with(1, 1, heads)
		far := numbers()
		for i, n := range far {
			pairs := [][2]int{{n, 0}, {n, 1}, {0, n}, {1, n}, {2, n}, {n, n}, {n, -n}, {-n, n}, {n, 1 << 62}, {n, math.MinInt}, {1 << 58, n}, {n, far[i*7%len(far)]}}
			for _, p := range pairs {
				if got := addr.Addr(r.g, heads, p[0], p[1]); got != -1 {
					t.Fatalf("%v, %v: %d", r, p, got)
				}
			}
		}
	}
}

// Indexes by which another span's block would be found, counted on from an earlier or a later one.
func TestP11_2AddrOfOtherSpans(t *testing.T) {
	for class, many := range []int{32, 16, 8, 4} {
		r := with(1, 1, slices.Repeat(of(small(class)), 5))
		for span := range 5 {
			for index := -6 * many; index < 6*many; index++ {
				want := -1
				if index >= 0 && index < many {
					want = 96 + 64*span + 64/many*index
				}
				if got := addr.Addr(r.g, r.heads, span, index); got != want {
					t.Fatalf("%v, %d, %d: %d, not %d", r, span, index, got, want)
				}
			}
		}
	}
}

// Each list of up to four heads.
func TestP11_2AllEachList(t *testing.T) {
	for many := 1; many <= 4; many++ {
		for heads := range lists(many) {
			alls(t, with(1+many%4, 1, heads))
		}
	}
}

// All geometries that may be, with heads that have everything.
func TestP11_2AllEachGeometry(t *testing.T) {
	for spans := 1; spans <= 16; spans++ {
		for lanes := 1; lanes <= 4; lanes++ {
			for roots := 1; roots <= 8; roots++ {
				for _, heads := range mixed() {
					alls(t, with(lanes, roots, heads[:min(spans, len(heads))]))
				}
			}
		}
	}
}

// All of it rises, is a block's beginning, and is there once.
func TestP11_2AllRises(t *testing.T) {
	for _, r := range regions() {
		alls(t, r)
		l := addr.All(r.g, r.heads)
		for i, at := range l {
			if i > 0 && l[i-1] >= at {
				t.Fatalf("%v: %d behind %d", r, at, l[i-1])
			}
		}
	}
}

func TestP11_3Examples(t *testing.T) {
	g := api.Geometry{Spans: 1, Lanes: 1, Roots: 1}
	l := of(small(2))
	for a, want := range map[int]int{-1: -1, 0: -1, 63: -1, 64: 64, 71: 64, 72: 72, 75: 72, 79: 72, 80: 80, 120: 120, 127: 120, 128: -1} {
		if got := addr.Within(g, l, a); got != want {
			t.Error(a, got)
		}
	}
}

func TestP11_3Within(t *testing.T) {
	for _, r := range regions() {
		withins(t, r)
	}
}

// The first and the last address of each block, and those beside it, of all geometries that may be.
func TestP11_3WithinEachGeometry(t *testing.T) {
	for spans := 1; spans <= 16; spans++ {
		for lanes := 1; lanes <= 4; lanes++ {
			for roots := 1; roots <= 8; roots++ {
				r := with(lanes, roots, mixed()[(spans+lanes+roots)%2][:spans])
				blocks := plain(r)
				for i := 0; i < len(blocks); i += 7 {
					b := blocks[i]
					end := b.at + b.spot.Words
					for a, want := range map[int]int{b.at: b.at, b.at + 1: b.at, end - 1: b.at, b.at - 1: owner(blocks, b.at-1), end: owner(blocks, end)} {
						if got := addr.Within(r.g, r.heads, a); got != want {
							t.Fatalf("%v, %d: in %d, not %d", r, a, got, want)
						}
					}
				}
			}
		}
	}
}

// owner is where the block begins that has an address, sought among all; -1, if there is none.
func owner(blocks []found, a int) int {
	for _, b := range blocks {
		if slices.Contains(words(b), a) {
			return b.at
		}
	}
	return -1
}

// words are the addresses of a block.
func words(b found) []int {
	var l []int
	for off := range b.spot.Words {
		l = append(l, b.at+off)
	}
	return l
}

// Addresses that are far from all that there are.
func TestP11_3Far(t *testing.T) {
	for _, heads := range [][]api.Head{of(small(0)), of(large(1)), join(of(small(3)), block(2), of(small(1))), join(block(4), of(small(0)))} {
		r := with(1, 1, heads)
		for _, n := range numbers() {
			for off := -3; off <= 3; off++ {
				if got := addr.Within(r.g, heads, n+off); got != -1 {
					t.Fatalf("%v, %d: in %d", r, n+off, got)
				}
			}
		}
	}
}

// Each address of a large block is in it, in whichever of its spans, and none behind it, also where its others seem to go on.
func TestP11_3Large(t *testing.T) {
	for many := 1; many <= 4; many++ {
		for _, behind := range every() {
			r := with(2, 3, join(of(free), block(many), of(behind)))
			begin := heapAt(r.g) + 64
			for off := range 64 * many {
				if got := addr.Within(r.g, r.heads, begin+off); got != begin {
					t.Fatalf("%v, %d: in %d", r, begin+off, got)
				}
			}
			end := begin + 64*many
			if got := addr.Within(r.g, r.heads, end); got == begin {
				t.Fatalf("%v, %d: in %d", r, end, got)
			}
			if got := addr.Within(r.g, r.heads, begin-1); got != -1 {
				t.Fatalf("%v, %d: in %d", r, begin-1, got)
			}
		}
	}
}

// Of each block that All tells, the Spot leads to its Addr, and that to its Spot; no other addresses have spots.
func TestP11_4ThereAndBack(t *testing.T) {
	for _, r := range regions() {
		all := addr.All(r.g, r.heads)
		for _, at := range all {
			s, ok := addr.Spot(r.g, r.heads, at)
			if !ok || addr.Addr(r.g, r.heads, s.Span, s.Index) != at || addr.Within(r.g, r.heads, at) != at {
				t.Fatalf("%v, %d: %v, %t", r, at, s, ok)
			}
			if !addr.Whole(r.g, r.heads, s.Span) {
				t.Fatalf("%v, %d: its span %d isn't whole", r, at, s.Span)
			}
		}
		var back []int
		for span := range r.heads {
			for index := 0; addr.Addr(r.g, r.heads, span, index) != -1; index++ {
				at := addr.Addr(r.g, r.heads, span, index)
				back = append(back, at)
				if s, ok := addr.Spot(r.g, r.heads, at); !ok || s.Span != span || s.Index != index {
					t.Fatalf("%v, %d, %d: %v, %t", r, span, index, s, ok)
				}
			}
		}
		if !slices.Equal(all, back) {
			t.Fatalf("%v: %v, not %v", r, back, all)
		}
	}
}

// No two blocks have an address in common, and none has one outside of the heap.
func TestP11_4Apart(t *testing.T) {
	for _, r := range regions() {
		of := map[int]int{} // which block an address is of
		for _, at := range addr.All(r.g, r.heads) {
			s, _ := addr.Spot(r.g, r.heads, at)
			if s.Words < 2 {
				t.Fatalf("%v, %d: %v", r, at, s)
			}
			for _, a := range words(found{at, s}) {
				if other, ok := of[a]; ok {
					t.Fatalf("%v, %d: in %d and in %d", r, a, other, at)
				}
				if a < heapAt(r.g) || a >= total(r.g) {
					t.Fatalf("%v: %d, of block %d, is outside of the heap", r, a, at)
				}
				of[a] = at
			}
		}
		for a := range total(r.g) {
			want, ok := of[a]
			if !ok {
				want = -1
			}
			if got := addr.Within(r.g, r.heads, a); got != want {
				t.Fatalf("%v, %d: in %d, not %d", r, a, got, want)
			}
		}
	}
}

// askAll asks each call several things.
func askAll(g api.Geometry, heads []api.Head) []int {
	for i := -1; i <= len(heads); i++ {
		addr.Whole(g, heads, i)
		addr.Addr(g, heads, i, i)
		addr.Spot(g, heads, 96+32*i)
		addr.Within(g, heads, 97+32*i)
	}
	return addr.All(g, heads)
}

// What is handed in stays as it is, its spare room too, and an answer isn't kept: what a caller does with it turns no other one.
func TestP11_4Unchanged(t *testing.T) {
	for _, r := range regions() {
		room := join(r.heads, of(more(1), more(2), small(1), api.Head{Kind: 9, Class: 9, Many: 9}))
		was := slices.Clone(room)
		in := room[:len(r.heads)]
		got := askAll(r.g, in)
		want := slices.Clone(got)
		other := askAll(r.g, in)
		for i := range got {
			got[i] = -got[i]
		}
		_ = append(got, 1, 2, 3)
		if again := askAll(r.g, in); !slices.Equal(again, want) || !slices.Equal(other, want) {
			t.Fatalf("%v: %v by what was done with the answer, not %v", r, again, want)
		}
		askAll(r.g, room)
		if !slices.Equal(room, was) {
			t.Fatalf("%v: %v were handed in, and are %v", r.g, was, room)
		}
	}
}

// What stands in the room behind the heads doesn't matter, even where it would make a large span whole.
func TestP11_4Room(t *testing.T) {
	for many := 2; many <= 4; many++ {
		for n := 1; n < many; n++ {
			r := with(1, 1, join(of(small(2)), block(many))[:1+n])
			wholes(t, r)
			spots(t, r)
			addrs(t, r)
			alls(t, r)
			withins(t, r)
			nothing(t, with(1, 1, block(many)[:n]).g, block(many)[:n])
		}
	}
}

// What was asked ahead of it turns no answer, neither of the same list while it was another one, nor of another geometry.
func TestP11_4Same(t *testing.T) {
	heads := join(of(small(2)), block(2), of(small(3)))
	for range 3 {
		for lanes := 1; lanes <= 4; lanes++ {
			r := with(lanes, lanes, heads)
			wholes(t, r)
			spots(t, r)
			addrs(t, r)
			alls(t, r)
			withins(t, r)
			r.g.Spans++
			nothing(t, r.g, heads)
		}
		heads[0], heads[1] = heads[1], heads[0]
		alls(t, with(1, 1, heads))
		heads[0], heads[2] = heads[2], heads[0]
	}
}
