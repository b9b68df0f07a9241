package mark_test

import (
	"fmt"
	"hash/crc32"
	"math"
	"slices"
	"testing"

	"trencher/api"
	"trencher/image"
	"trencher/mark"
)

// full is the word whose bits are all 1.
const full = math.MaxUint64

// free is the head of a span that is free.
var free = api.Head{}

// small is the head of a span whose blocks are of a class.
func small(class int) api.Head { return api.Head{Kind: 1, Class: class} }

// large is the head of the first span of a block of so many.
func large(many int) api.Head { return api.Head{Kind: 2, Class: 4, Many: many} }

// more is the head of a span that is so many behind the first one of its block.
func more(many int) api.Head { return api.Head{Kind: 3, Class: 4, Many: many} }

// every has all heads that may be.
func every() []api.Head {
	return []api.Head{free, small(0), small(1), small(2), small(3), large(1), large(2), large(3), large(4), more(1), more(2), more(3)}
}

// block has the heads of a large block's spans.
func block(many int) []api.Head {
	return []api.Head{large(many), more(1), more(2), more(3)}[:many]
}

// of is a list of these heads.
func of(heads ...api.Head) []api.Head { return heads }

// join has lists of heads, one behind the other.
func join(lists ...[]api.Head) []api.Head { return slices.Concat(lists...) }

// Where the parts of a region begin, and how many words it has, by the document's numbers.
func rootAt(i int) int                    { return 8 + i }
func headAt(g api.Geometry, span int) int { return 16 + 40*g.Lanes + 8*span }
func spanAt(g api.Geometry, span int) int { return 16 + 40*g.Lanes + 8*g.Spans + 64*span }
func total(g api.Geometry) int            { return 16 + 40*g.Lanes + 72*g.Spans }

// everyGeometry are all that may be.
func everyGeometry() []api.Geometry {
	var l []api.Geometry
	for spans := 1; spans <= 16; spans++ {
		for lanes := 1; lanes <= 4; lanes++ {
			for roots := 1; roots <= 8; roots++ {
				l = append(l, api.Geometry{Spans: spans, Lanes: lanes, Roots: roots})
			}
		}
	}
	return l
}

// may tells whether a geometry is one of those.
func may(g api.Geometry) bool {
	return g.Spans > 0 && g.Spans < 17 && g.Lanes > 0 && g.Lanes < 5 && g.Roots > 0 && g.Roots < 9
}

// noGeometries are some that may not be: with one number that is wrong, also such of which the lowest bits alone would be right, with two, and with three.
func noGeometries(g api.Geometry) []api.Geometry {
	l := []api.Geometry{{}, {Spans: -1, Lanes: -1, Roots: -1}, {Spans: 17, Lanes: 5, Roots: 9}, {Spans: 0, Lanes: 5, Roots: g.Roots}}
	wrong := func(most, is int) []int {
		n := []int{0, -1, most + 1, most * 2, -is, math.MaxInt, math.MinInt, math.MinInt + is, math.MaxInt32, math.MinInt32}
		for _, bit := range []int{5, 8, 16, 31, 32, 48, 58, 60, 62} {
			n = append(n, 1<<bit, 1<<bit+is, -1<<bit, is-1<<bit)
		}
		return n
	}
	for _, n := range wrong(16, g.Spans) {
		l = append(l, api.Geometry{Spans: n, Lanes: g.Lanes, Roots: g.Roots})
	}
	for _, n := range wrong(4, g.Lanes) {
		l = append(l, api.Geometry{Spans: g.Spans, Lanes: n, Roots: g.Roots})
	}
	for _, n := range wrong(8, g.Roots) {
		l = append(l, api.Geometry{Spans: g.Spans, Lanes: g.Lanes, Roots: n})
	}
	return l
}

// A dice tells numbers that look as if they were by chance, the same each time.
type dice uint64

func (d *dice) word() uint64 {
	*d = *d*6364136223846793005 + 1442695040888963407
	return uint64(*d) ^ uint64(*d)>>29
}

func (d *dice) below(n int) int { return int(d.word() >> 33 % uint64(n)) }

// crc is the sum of a word, by the library.
func crc(w uint64) uint64 {
	var b []byte
	for range 8 {
		b = append(b, byte(w%256))
		w /= 256
	}
	return uint64(crc32.ChecksumIEEE(b))
}

// headWord is the word of a head that may be, as the document has it.
func headWord(h api.Head) uint64 {
	if h == free {
		return 0
	}
	x := uint64(h.Kind) + uint64(h.Class)*4 + uint64(h.Many)*32
	return x + crc(x)<<32
}

// headsBy has the heads by their words.
var headsBy = func() map[uint64]api.Head {
	m := map[uint64]api.Head{}
	for _, h := range every() {
		m[headWord(h)] = h
	}
	return m
}()

// noHeadWords are words that are no head's: the edges, some whose sum fits fields that may not be, and heads' words with a bit turned.
func noHeadWords() []uint64 {
	l := []uint64{1, 2, 3, 4, 77, full, 1 << 31, 1 << 32, 1 << 63}
	for _, x := range []uint64{0, 4, 32, 1 + 4<<2, 1 + 1<<5, 2 + 4<<2, 2 + 4<<2 + 5<<5, 2 + 3<<2 + 1<<5, 3 + 4<<2, 3 + 4<<2 + 4<<5, 1 + 1<<8} {
		l = append(l, x+crc(x)<<32)
	}
	for _, h := range every() {
		for _, bit := range []int{0, 2, 5, 8, 31, 32, 63} {
			l = append(l, headWord(h)^1<<bit)
		}
	}
	return l
}

// firstWord is an object's first word.
func firstWord(refs, slots, words int) uint64 {
	return uint64(refs) + uint64(slots)*65536 + uint64(words)*16777216
}

// classOf is the class of an object of so many words, and how many spans its block takes; -1, if there is none.
func classOf(words int) (class, spans int) {
	switch {
	case words < 1 || words > 255:
		return -1, 0
	case words == 1:
		return 0, 0
	case words <= 3:
		return 1, 0
	case words <= 7:
		return 2, 0
	case words <= 15:
		return 3, 0
	}
	return 4, words/64 + 1
}

// A found is a block: where it begins, its spot, and its span's head.
type found struct {
	at   int
	spot api.Spot
	head api.Head
}

// blocks are those of all whole spans, by rising addresses.
func blocks(g api.Geometry, heads []api.Head) []found {
	var l []found
	for span, h := range heads {
		begin := spanAt(g, span)
		switch {
		case h.Kind == 1:
			words := []int{2, 4, 8, 16}[h.Class]
			for i := range 64 / words {
				l = append(l, found{begin + i*words, api.Spot{Span: span, Index: i, Words: words}, h})
			}
		case h.Kind == 2 && span+h.Many <= len(heads) && slices.Equal(heads[span:span+h.Many], block(h.Many)):
			l = append(l, found{begin, api.Spot{Span: span, Words: 64 * h.Many}, h})
		}
	}
	return l
}

// A model is what an image tells, worked out the long way.
type model struct {
	live    []api.Live
	garbage int
}

// plainHeads are an image's heads; false, if there are none.
func plainHeads(g api.Geometry, words []uint64) ([]api.Head, bool) {
	if !may(g) || len(words) != total(g) {
		return nil, false
	}
	var heads []api.Head
	for span := range g.Spans {
		h, ok := headsBy[words[headAt(g, span)]]
		if !ok {
			return nil, false
		}
		heads = append(heads, h)
	}
	return heads, true
}

// isLive is the object in a block, if a pointer to it is right.
func isLive(g api.Geometry, words []uint64, b found) (api.Live, bool) {
	x := words[b.at]
	slots, n := int(x/65536%256), int(x/16777216%256)
	class, spans := classOf(n)
	bit := words[headAt(g, b.spot.Span)+1] >> b.spot.Index & 1
	ok := x < 1<<32 && bit == 1 && n > 0 && slots <= n && class == b.head.Class && spans == b.head.Many
	return api.Live{At: b.at, Object: api.Object{Slots: slots, Words: n}, Spot: b.spot}, ok
}

// plain is what an image tells; false, if it can't be marked. It looks at all blocks again and again, till no more are come to.
func plain(g api.Geometry, words []uint64) (model, bool) {
	heads, ok := plainHeads(g, words)
	if !ok {
		return model{}, false
	}
	all := blocks(g, heads)
	right := map[uint64]api.Live{}
	for _, b := range all {
		if l, ok := isLive(g, words, b); ok {
			right[uint64(b.at)] = l
		}
	}
	refs := map[uint64]int{}
	for was := -1; was != len(refs); {
		was = len(refs)
		again := map[uint64]int{}
		for i := range g.Roots {
			again[words[rootAt(i)]]++
		}
		for at := range refs {
			for slot := range right[at].Object.Slots {
				again[words[int(at)+1+slot]]++
			}
		}
		delete(again, 0)
		for at := range again {
			if _, ok := right[at]; !ok {
				return model{}, false
			}
		}
		refs = again
	}
	var m model
	for _, b := range all {
		l, bit := right[uint64(b.at)], words[headAt(g, b.spot.Span)+1]>>b.spot.Index&1
		if l.Object.Refs = refs[uint64(b.at)]; l.Object.Refs > 0 {
			m.live = append(m.live, l)
		} else {
			m.garbage += int(bit)
		}
	}
	return m, true
}

// plainMaps are the maps of blocks that objects have.
func plainMaps(g api.Geometry, live []api.Live) []uint64 {
	var l []uint64
	for span := range g.Spans {
		for i := range 64 {
			if i == 0 {
				l = append(l, 0)
			}
			if slices.ContainsFunc(live, func(l api.Live) bool { return l.Spot.Span == span && l.Spot.Index == i }) {
				l[span] += 1 << i
			}
		}
	}
	return l
}

// plainKeeps are the heads of spans in which words of one of the objects' blocks lie; of others free ones.
func plainKeeps(g api.Geometry, heads []api.Head, live []api.Live) []api.Head {
	l := make([]api.Head, g.Spans)
	for _, o := range live {
		for a := o.At; a < o.At+o.Spot.Words; a++ {
			span := (a - spanAt(g, 0)) / 64
			l[span] = heads[span]
		}
	}
	return l
}

// A picture is an image that is drawn: its geometry, its heads, its words.
type picture struct {
	g     api.Geometry
	heads []api.Head
	words []uint64
}

// drawn is a picture of just the spans of these heads, without objects.
func drawn(lanes, roots int, heads []api.Head) picture {
	g := api.Geometry{Spans: len(heads), Lanes: lanes, Roots: roots}
	p := picture{g, heads, image.Fresh(g)}
	for span, h := range heads {
		p.words[headAt(g, span)] = headWord(h)
	}
	return p
}

// copied is a picture like another one.
func (p picture) copied() picture {
	return picture{p.g, slices.Clone(p.heads), slices.Clone(p.words)}
}

// at is where a block of a span begins.
func (p picture) at(span, index int) int {
	return spanAt(p.g, span) + index*[]int{2, 4, 8, 16, 64}[p.heads[span].Class]
}

// lay lays an object into a block of a span, with its bit, and tells where. What isn't one of its pointers, of its other slots, stays 0; its data, and what is unused behind them, look like anything.
func (p picture) lay(span, index, words, slots int, pointers ...int) int {
	at := p.at(span, index)
	d := dice(at)
	// Whatever is counted, the first word says something else.
	p.words[at] = firstWord(d.below(65536), slots, words)
	size := []int{2, 4, 8, 16, 64 * p.heads[span].Many}[p.heads[span].Class]
	for a := at + 1 + slots; a < at+size; a++ {
		p.words[a] = d.word()
	}
	for i := range slots {
		p.words[at+1+i] = 0
	}
	for i, to := range pointers {
		p.words[at+1+i] = uint64(to)
	}
	p.words[headAt(p.g, span)+1] |= 1 << index
	return at
}

// roots lets the first roots point.
func (p picture) roots(pointers ...int) picture {
	for i, to := range pointers {
		p.words[rootAt(i)] = uint64(to)
	}
	return p
}

// one is what an object that is reached is told as.
func (p picture) one(span, index, words, slots, refs int) api.Live {
	size := []int{2, 4, 8, 16, 64 * p.heads[span].Many}[p.heads[span].Class]
	return api.Live{At: p.at(span, index), Object: api.Object{Refs: refs, Slots: slots, Words: words}, Spot: api.Spot{Span: span, Index: index, Words: size}}
}

// reaches checks that just these objects are told, and so many blocks of garbage.
func reaches(t *testing.T, what any, p picture, garbage int, want ...api.Live) {
	t.Helper()
	if got, e := mark.Reach(p.g, p.words); e != api.OK || !slices.Equal(got, want) {
		t.Fatalf("%v: reached %v, %d, not %v", what, got, e, want)
	}
	if got := mark.Garbage(p.g, p.words); got != garbage {
		t.Fatalf("%v: garbage %d, not %d", what, got, garbage)
	}
}

// refused checks that an image is corrupt, and nothing is told beside that.
func refused(t *testing.T, what any, g api.Geometry, words []uint64) {
	t.Helper()
	if got, e := mark.Reach(g, words); len(got) != 0 || e != api.ErrCorrupt {
		t.Fatalf("%v: reached %v, %d", what, got, e)
	}
	if got := mark.Garbage(g, words); got != -1 {
		t.Fatalf("%v: garbage %d", what, got)
	}
}

// agrees checks that an image tells what the model tells, and tells whether it can be marked.
func agrees(t *testing.T, what any, p picture) bool {
	t.Helper()
	m, ok := plain(p.g, p.words)
	if !ok {
		refused(t, what, p.g, p.words)
		return false
	}
	reaches(t, what, p, m.garbage, m.live...)
	return true
}

// sorts checks that maps and kept heads of objects are the model's.
func sorts(t *testing.T, p picture, live []api.Live) {
	t.Helper()
	if got, want := mark.Maps(p.g, live), plainMaps(p.g, live); !slices.Equal(got, want) {
		t.Fatalf("%v: maps %x, not %x", live, got, want)
	}
	if got, want := mark.Keeps(p.g, p.heads, live), plainKeeps(p.g, p.heads, live); !slices.Equal(got, want) {
		t.Fatalf("%v: kept %v, not %v", live, got, want)
	}
}

// layouts are lists of heads: of one span, of some, and of as many as there may be; also such in which spans aren't whole.
func layouts() [][]api.Head {
	l := [][]api.Head{
		join(of(free, small(0)), block(4), of(small(1)), block(3), of(small(2), free), block(1), block(2), of(small(3))),
		join(of(small(3), small(2), small(1), small(0), free), block(2), block(2), block(4), block(1), of(small(0), small(3))),
		join(block(4), block(4), block(4), block(4)),
		slices.Repeat(of(small(0)), 16),
		slices.Repeat(of(free), 16),
		join(block(3), of(more(3)), block(2), of(more(2), more(3), small(1))),
		join(of(more(1), more(2), more(3)), block(4), of(more(1), small(1), large(2))),
		join(of(large(3), more(1), small(0), large(2), large(2), more(1)), block(4)[:3], of(small(3))),
		of(large(2)), of(more(1)), of(small(2), large(4)), of(free, small(1), free),
	}
	for class := range 4 {
		l = append(l, of(small(class)), of(small(class), small(3-class)))
	}
	for many := 1; many <= 4; many++ {
		l = append(l, block(many), join(of(small(0)), block(many), of(small(3))))
	}
	return l
}

// sizes are the least and the greatest numbers of words of objects that a block has room for.
func sizes(h api.Head) (least, most int) {
	if h.Kind == 2 {
		return max(16, 64*h.Many-64), 64*h.Many - 1
	}
	return []int{1, 2, 4, 8}[h.Class], []int{1, 3, 7, 15}[h.Class]
}

// crowded is a picture with objects in many blocks, whose slots and roots point to one another, and garbage; in each slot, by a wrong number in so many, stands something else.
func crowded(seed int, heads []api.Head, wrong int) picture {
	d := dice(seed)
	p := drawn(1+d.below(4), 1+d.below(8), heads)
	all := blocks(p.g, heads)
	var there []int
	for _, b := range all {
		if d.below(4) > 0 {
			there = append(there, b.at)
		}
	}
	pointer := func() int {
		switch {
		case wrong > 0 && d.below(wrong) == 0:
			return d.below(total(p.g))
		case d.below(3) == 0 || len(there) == 0:
			return 0
		}
		return there[d.below(len(there))]
	}
	for _, b := range all {
		if !slices.Contains(there, b.at) {
			continue
		}
		least, most := sizes(b.head)
		words := least + d.below(most-least+1)
		slots := []int{0, words, d.below(words + 1), min(2, words)}[d.below(4)]
		var pointers []int
		for range slots {
			pointers = append(pointers, pointer())
		}
		p.lay(b.spot.Span, b.spot.Index, words, slots, pointers...)
	}
	for i := range p.g.Roots {
		p.words[rootAt(i)] = uint64(pointer())
	}
	return p
}

// crowds are crowded pictures, of each list of heads some, all of which can be marked.
func crowds() []picture {
	var l []picture
	for i, heads := range layouts() {
		for k := range 4 {
			l = append(l, crowded(i*100+k, heads, 0))
		}
	}
	return l
}

// scene is a small picture: roots 0 and 2 lead, by ways of one, two and three slots, to small objects of some classes, and a large one; there is garbage beside it, which points to what is reached, to itself, and to nothing right.
func scene() picture {
	p := drawn(2, 3, join(of(small(1), free), block(2), of(small(0), small(3))))
	a, b, c, l, w := p.at(0, 0), p.at(0, 15), p.at(4, 31), p.at(2, 0), p.at(5, 1)
	p.lay(0, 0, 3, 2, b, l)
	p.lay(0, 15, 2, 1, a)
	p.lay(4, 31, 1, 1, c)
	p.lay(2, 0, 100, 3, b, 0, c)
	p.lay(5, 1, 15, 15, a, a, 0, w)
	p.lay(0, 3, 3, 3, a, p.at(0, 3), 5)
	p.lay(4, 0, 1, 1, p.at(0, 3))
	p.lay(5, 3, 9, 4, p.at(4, 0), w, p.at(5, 3)+1, total(p.g))
	return p.roots(a, 0, w)
}

// sceneLive is what is reached in the scene.
func sceneLive(p picture) []api.Live {
	return []api.Live{p.one(0, 0, 3, 2, 4), p.one(0, 15, 2, 1, 2), p.one(2, 0, 100, 3, 1), p.one(4, 31, 1, 1, 2), p.one(5, 1, 15, 15, 2)}
}

// Fresh images of all geometries that may be.
func TestP13_1Fresh(t *testing.T) {
	for _, g := range everyGeometry() {
		reaches(t, g, picture{g: g, words: image.Fresh(g)}, 0)
	}
}

func TestP13_1Scene(t *testing.T) {
	p := scene()
	reaches(t, "scene", p, 3, sceneLive(p)...)
}

// One object, of each size that there may be, without slots, with one, with some, with slots alone, by each root.
func TestP13_1OneObject(t *testing.T) {
	for words := 1; words <= 255; words++ {
		for _, slots := range []int{0, 1, words / 2, words - 1, words} {
			class, spans := classOf(words)
			heads := of(free, small(class), free)
			if class == 4 {
				heads = join(of(free), block(spans), of(free))
			}
			for root := range 8 {
				p := drawn(1+words%4, 8, heads)
				p.words[rootAt(root)] = uint64(p.lay(1, 0, words, slots))
				reaches(t, words, p, 0, p.one(1, 0, words, slots, 1))
			}
		}
	}
}

// Each block of each span alone, of regions with all lists of heads; by the last root, and by another one.
func TestP13_1EachBlock(t *testing.T) {
	for i, heads := range layouts() {
		empty := drawn(1+i%4, 1+i%8, heads)
		for _, b := range blocks(empty.g, heads) {
			least, most := sizes(b.head)
			for k, words := range []int{least, most} {
				p := empty.copied()
				p.lay(b.spot.Span, b.spot.Index, words, k)
				p.words[rootAt((p.g.Roots-1)/(k+1))] = uint64(b.at)
				reaches(t, b, p, 0, p.one(b.spot.Span, b.spot.Index, words, k, 1))
			}
		}
	}
}

// Several roots to one object, and to several, in whichever order.
func TestP13_1Roots(t *testing.T) {
	for roots := 1; roots <= 8; roots++ {
		p := drawn(1, roots, of(small(2), small(1)))
		a, b := p.lay(0, 7, 5, 0), p.lay(1, 0, 3, 3)
		for which := range 1 << roots {
			many := 0
			for i := range roots {
				p.words[rootAt(i)] = uint64([]int{a, b}[which>>i&1])
				many += which >> i & 1
			}
			var want []api.Live
			if many < roots {
				want = append(want, p.one(0, 7, 5, 0, roots-many))
			}
			if many > 0 {
				want = append(want, p.one(1, 0, 3, 3, many))
			}
			reaches(t, which, p, 2-len(want), want...)
		}
	}
}

// A word behind the last root is no root, whatever it is.
func TestP13_1NoRoot(t *testing.T) {
	for roots := 1; roots < 8; roots++ {
		p := drawn(1, roots, of(small(1)))
		a := p.lay(0, 2, 3, 0)
		for i := roots; i < 8; i++ {
			for _, x := range []uint64{uint64(a), uint64(a + 1), 5, full} {
				p.words[rootAt(i)] = x
				reaches(t, x, p, 1)
			}
		}
	}
}

// Chains through all blocks of as many spans as there may be, in several orders, from each root; with an end, and back to the first one.
func TestP13_1Chains(t *testing.T) {
	for _, step := range []int{1, 511, 5, 77, 255} {
		for _, many := range []int{1, 2, 3, 100, 512} {
			p := drawn(1, 8, slices.Repeat(of(small(0)), 16))
			last := 0
			var want []api.Live
			for i := range many {
				n := i * step % 512
				last = p.lay(n/32, n%32, 1, 1, last)
				want = append(want, p.one(n/32, n%32, 1, 1, 1))
			}
			slices.SortFunc(want, func(a, b api.Live) int { return a.At - b.At })
			p.words[rootAt(many%8)] = uint64(last)
			reaches(t, step, p, 0, want...)
			p.words[p.at(0, 0)+1] = uint64(last)
			want[slices.IndexFunc(want, func(l api.Live) bool { return l.At == last })].Object.Refs = 2
			reaches(t, step, p, 0, want...)
			p.words[rootAt(many%8)] = 0
			reaches(t, step, p, many)
		}
	}
}

// Trees of objects with two or more slots, also such whose leaves are shared.
func TestP13_1Trees(t *testing.T) {
	for slots := 2; slots <= 7; slots++ {
		p := drawn(1, 1, slices.Repeat(of(small(2)), 16))
		var want []api.Live
		for i := range 128 {
			var pointers []int
			for k := range slots {
				if n := i*slots + 1 + k; n < 128 {
					pointers = append(pointers, p.at(n/8, n%8))
				}
			}
			p.lay(i/8, i%8, 7, slots, pointers...)
			want = append(want, p.one(i/8, i%8, 7, slots, 1))
		}
		reaches(t, slots, p.roots(p.at(0, 0)), 0, want...)
		p.words[p.at(15, 7)+slots] = uint64(p.at(2, 3))
		want[19].Object.Refs++
		reaches(t, slots, p, 0, want...)
	}
}

// Objects that point to themselves, to one another, and back.
func TestP13_1Rings(t *testing.T) {
	for ring := 1; ring <= 8; ring++ {
		for _, slots := range []int{1, 2, 7} {
			p := drawn(1, 2, of(small(2), small(2)))
			var want []api.Live
			for i := range ring {
				p.lay(1, i, 7, slots, slices.Repeat([]int{p.at(1, (i+1)%ring)}, slots)...)
				want = append(want, p.one(1, i, 7, slots, slots))
			}
			reaches(t, ring, p, ring)
			want[ring-1].Object.Refs++
			reaches(t, ring, p.roots(0, p.at(1, ring-1)), 0, want...)
		}
	}
}

// The same object by each slot of four that are as great as there may be, and by all roots: no image has more that point to one.
func TestP13_1ManyRefs(t *testing.T) {
	p := drawn(4, 8, slices.Repeat(block(4), 4))
	to := p.at(8, 0)
	var want []api.Live
	for i := range 4 {
		pointers := slices.Repeat([]int{to}, 255)
		pointers[100] = p.at((4*i+4)%16, 0)
		p.lay(4*i, 0, 255, 255, pointers...)
		want = append(want, p.one(4*i, 0, 255, 255, 1))
	}
	want[2].Object.Refs = 4*254 + 1 + 8
	reaches(t, "many", p.roots(slices.Repeat([]int{to}, 8)...), 0, want...)
	p.roots(make([]int, 8)...).roots(0, p.at(0, 0))
	want[2].Object.Refs -= 8
	want[0].Object.Refs++
	reaches(t, "many", p, 0, want...)
}

// Which slot points to an object makes no difference, from the first one to the last.
func TestP13_1EachSlot(t *testing.T) {
	for _, h := range of(small(0), small(1), small(2), small(3), large(1), large(2), large(3), large(4)) {
		least, words := sizes(h)
		heads := join(block(max(1, h.Many)), of(small(0)))
		heads[0] = h
		for slots := 1; slots <= words; slots += 1 + slots/20 {
			for slot := range slots {
				p := drawn(1, 1, heads)
				pointers := make([]int, slots)
				last := len(heads) - 1
				pointers[slot] = p.at(last, 31)
				p.lay(last, 31, 1, 0)
				p.roots(p.lay(0, 0, max(slots, least), slots, pointers...))
				reaches(t, h, p, 0, p.one(0, 0, max(slots, least), slots, 1), p.one(last, 31, 1, 0, 1))
			}
		}
	}
}

// What first words say of Refs turns nothing.
func TestP13_1Refs(t *testing.T) {
	for _, refs := range []int{0, 1, 2, 3, 4, 5, 255, 256, 32768, 65534, 65535} {
		p := scene()
		for _, l := range sceneLive(p) {
			p.words[l.At] = p.words[l.At]/65536*65536 + uint64(refs)
			reaches(t, refs, p, 3, sceneLive(p)...)
		}
	}
}

// Data, and unused words behind them, that look like pointers, right ones and wrong ones, lead nowhere.
func TestP13_1Data(t *testing.T) {
	p := scene()
	looks := []uint64{0, uint64(p.at(0, 3)), uint64(p.at(0, 0)), uint64(p.at(0, 1)), uint64(p.at(0, 0) + 1), 1, full, uint64(p.at(1, 0))}
	for _, l := range sceneLive(p) {
		for a := l.At + 1 + l.Object.Slots; a < l.At+l.Spot.Words; a++ {
			for _, x := range looks {
				p.words[a] = x
				reaches(t, a, p, 3, sceneLive(p)...)
			}
		}
	}
}

// Crowded pictures, against the model; with some wrong pointers, too.
func TestP13_1Crowds(t *testing.T) {
	can, cannot := 0, 0
	for i, heads := range layouts() {
		for k := range 30 {
			if !agrees(t, i, crowded(i*1000+k, heads, 0)) {
				t.Fatalf("%d, %d: can't be marked", i, k)
			}
			if agrees(t, i, crowded(i*1000+k, heads, 20+10*k)) {
				can++
			} else {
				cannot++
			}
		}
	}
	if can < 100 || cannot < 100 {
		t.Error(can, cannot)
	}
}

// All of a small image's words with each bit turned, against the model.
func TestP13_1EachBit(t *testing.T) {
	for _, p := range []picture{scene(), crowded(3, join(of(small(1)), block(2)), 0), crowded(8, of(small(3)), 0)} {
		for a := range p.words {
			for bit := range 64 {
				p.words[a] ^= 1 << bit
				agrees(t, [2]int{a, bit}, p)
				p.words[a] ^= 1 << bit
			}
		}
	}
}

// Each address of a region, and some behind it, as a root, and in a slot: of an object by which there was none, and of each that is reached.
func TestP13_1EachPointer(t *testing.T) {
	p := scene()
	places := []int{rootAt(0), rootAt(1), rootAt(2)}
	for _, l := range sceneLive(p) {
		places = append(places, l.At+1, l.At+l.Object.Slots)
	}
	for _, place := range places {
		was := p.words[place]
		for x := range uint64(total(p.g) + 100) {
			p.words[place] = x
			agrees(t, [2]int{place, int(x)}, p)
		}
		p.words[place] = was
	}
}

// A wrong is something that a pointer may not be, with what must be done to a picture that it is so.
type wrong struct {
	what string
	x    func(p picture) int
}

// wrongs are such, for pictures whose spans are tower's.
func wrongs() []wrong {
	to := func(span, index, off int) func(p picture) int {
		return func(p picture) int { return p.at(span, index) + off }
	}
	lay := func(span, index int, first uint64) func(p picture) int {
		return func(p picture) int {
			p.lay(span, index, 1, 0)
			p.words[p.at(span, index)] = first
			return p.at(span, index)
		}
	}
	unset := func(span, index, words int) func(p picture) int {
		return func(p picture) int {
			p.lay(span, index, words, 0)
			p.words[headAt(p.g, span)+1] &^= 1 << index
			return p.at(span, index)
		}
	}
	l := []wrong{
		{"inside a block", to(0, 2, 1)}, {"inside a block", to(0, 2, 3)}, {"inside the first block", to(0, 0, 1)}, {"inside the last block", to(5, 3, 15)},
		{"inside a large block", to(2, 0, 1)}, {"a large block's other span", to(2, 0, 64)}, {"a large block's end", to(2, 0, 127)},
		{"a free span", to(4, 0, 0)}, {"a free span", to(4, 0, 2)}, {"a span that isn't whole", to(6, 0, 0)}, {"other spans alone", to(7, 0, 0)},
		{"the superblock", func(picture) int { return 1 }}, {"the superblock", func(picture) int { return 7 }},
		{"a root", func(picture) int { return rootAt(0) }}, {"behind the roots", func(picture) int { return 15 }},
		{"a lane", func(picture) int { return 16 }}, {"a lane's end", func(p picture) int { return headAt(p.g, 0) - 1 }},
		{"a head", func(p picture) int { return headAt(p.g, 0) }}, {"the heads' end", func(p picture) int { return spanAt(p.g, 0) - 1 }},
		{"behind the region", func(p picture) int { return total(p.g) }}, {"far behind it", func(p picture) int { return 16384 }},
		{"the greatest number", func(picture) int { return -1 }}, {"the greatest number", func(picture) int { return math.MaxInt }},
		{"the least number", func(picture) int { return math.MinInt }}, {"an address below 0", func(p picture) int { return -p.at(0, 0) }},
		{"no bit", unset(0, 3, 3)}, {"no bit at the first", unset(0, 0, 3)}, {"no bit at the last", unset(5, 3, 8)}, {"no bit of a large one", unset(2, 0, 64)},
		{"first word 0", lay(0, 3, 0)}, {"first word 0 of a large one", lay(2, 0, 0)},
		{"no words", lay(0, 3, firstWord(5, 0, 0))}, {"no words but slots", lay(0, 3, firstWord(0, 1, 0))}, {"Refs of nothing in a large one", lay(2, 0, 5)},
		{"more slots than words", lay(0, 3, firstWord(1, 3, 2))}, {"more slots than words", lay(2, 0, firstWord(1, 65, 64))},
		{"a bit above", lay(0, 3, firstWord(1, 0, 2)+1<<32)}, {"a bit above", lay(0, 3, firstWord(1, 0, 2)+1<<63)}, {"all bits", lay(0, 3, full)}, {"all bits in a large one", lay(2, 0, full)},
		{"too few words", lay(0, 3, firstWord(1, 0, 1))}, {"too many words", lay(0, 3, firstWord(1, 0, 4))}, {"large in a small one", lay(0, 3, firstWord(1, 0, 64))},
		{"small in a large one", lay(2, 0, firstWord(1, 0, 15))}, {"tiny in a large one", lay(2, 0, firstWord(1, 1, 1))}, {"too few words for the class", lay(5, 0, firstWord(1, 0, 7))}, {"too many", lay(5, 0, firstWord(1, 0, 16))},
		{"fewer spans", lay(2, 0, firstWord(1, 0, 63))}, {"fewer spans", lay(2, 0, firstWord(1, 0, 16))}, {"more spans", lay(2, 0, firstWord(1, 0, 128))}, {"more spans", lay(2, 0, firstWord(1, 0, 255))},
		{"no bit but one beside it", func(p picture) int {
			p.lay(0, 3, 3, 0)
			p.words[headAt(p.g, 0)+1] = p.words[headAt(p.g, 0)+1]&^8 | 1<<4 | 1<<2
			p.lay(0, 4, 3, 0)
			p.lay(0, 2, 3, 0)
			return p.at(0, 3)
		}},
		{"a bit of another span", func(p picture) int {
			p.lay(0, 9, 3, 0)
			p.lay(1, 9, 1, 0)
			p.words[headAt(p.g, 0)+1] &^= 1 << 9
			return p.at(0, 9)
		}},
	}
	for _, bit := range []int{14, 16, 20, 31, 32, 33, 40, 48, 61, 62, 63} {
		l = append(l, wrong{"right by its lowest bits", func(p picture) int { return p.lay(0, 3, 3, 0) + 1<<bit }})
		l = append(l, wrong{"0 by its lowest bits", func(p picture) int { return 1 << bit }})
	}
	return l
}

// tower is a picture in which root 1 leads to a chain of so many objects, and the last one's slot is 0; where that is. In span 0 blocks 0 to 4 and 9, and spans 2, 3 and 5, are left for something else.
func tower(depth int) (picture, int) {
	// Behind the last large block's first span stands another one's: neither is whole.
	p := drawn(1, 3, join(of(small(1), small(0)), block(2), of(free, small(3), large(2), more(2))))
	place := rootAt(1)
	for i := range depth {
		if i%2 == 0 {
			p.words[place] = uint64(p.lay(1, 31-i, 1, 1))
			place = int(p.words[place]) + 1
		} else {
			p.words[place] = uint64(p.lay(0, 15-i/2, 3, 2))
			place = int(p.words[place]) + 2
		}
	}
	return p, place
}

// Each such thing in a root, and in a slot at each depth, refuses the image; in garbage it doesn't matter.
func TestP13_1Wrong(t *testing.T) {
	for depth := range 10 {
		for _, w := range wrongs() {
			p, place := tower(depth)
			x := uint64(w.x(p))
			if !agrees(t, w.what, p) {
				t.Fatalf("%d, %s: can't be marked without", depth, w.what)
			}
			p.words[place] = x
			refused(t, w.what, p.g, p.words)
			if _, ok := plain(p.g, p.words); ok {
				t.Fatalf("%d, %s: the model can mark it", depth, w.what)
			}
			if depth == 0 {
				continue
			}
			// Nothing leads to it any more.
			p.words[rootAt(1)] = 0
			if !agrees(t, w.what, p) {
				t.Fatalf("%d, %s: garbage matters", depth, w.what)
			}
		}
	}
}

// The same in each slot of an object that has many, and at each root, beside others that are right.
func TestP13_1WrongAmongOthers(t *testing.T) {
	for _, slots := range []int{1, 2, 15, 16, 100, 127} {
		for slot := range slots {
			p := drawn(1, 8, join(of(small(0)), block(2), of(small(3))))
			for i := range 32 {
				p.lay(0, i, 1, 0)
			}
			pointers := make([]int, slots)
			for i := range pointers {
				pointers[i] = p.at(0, i%32)
			}
			p.roots(p.at(0, 3), 0, p.lay(1, 0, 127, slots, pointers...))
			if !agrees(t, slot, p) {
				t.Fatal(slots, slot)
			}
			p.words[p.at(1, 0)+1+slot]++
			refused(t, slot, p.g, p.words)
			p.words[p.at(1, 0)+1+slot] = 0
			if !agrees(t, slot, p) {
				t.Fatal(slots, slot)
			}
			for root := range 8 {
				was := p.words[rootAt(root)]
				p.words[rootAt(root)] = uint64(p.at(0, 4) + 1)
				refused(t, root, p.g, p.words)
				p.words[rootAt(root)] = was
			}
		}
	}
}

// Of large blocks of each number of spans, objects of each number of words.
func TestP13_1LargeWords(t *testing.T) {
	for many := 1; many <= 4; many++ {
		for words := range 256 {
			p := drawn(1, 1, join(block(many), of(small(0))))
			p.roots(p.lay(0, 0, 100, 0))
			p.words[p.at(0, 0)] = firstWord(1, 0, words)
			if least, most := sizes(large(many)); words < least || words > most {
				refused(t, words, p.g, p.words)
				continue
			}
			reaches(t, words, p, 0, p.one(0, 0, words, 0, 1))
		}
	}
}

// One word that is no head's, at the first span, in the middle, at the last, whether something there is reached or not.
func TestP13_1NoHeads(t *testing.T) {
	for _, p := range []picture{scene(), drawn(1, 1, of(free)), drawn(4, 8, slices.Repeat(of(free), 16)), crowds()[0]} {
		for _, span := range []int{0, p.g.Spans / 2, p.g.Spans - 1} {
			for _, x := range noHeadWords() {
				was := p.words[headAt(p.g, span)]
				p.words[headAt(p.g, span)] = x
				refused(t, x, p.g, p.words)
				p.words[headAt(p.g, span)] = was
			}
		}
	}
}

// Geometries that may not be, of as many words as the right one has, and as they would have; another one than there are words for; a word too few, a word too many, none.
func TestP13_1NoGeometry(t *testing.T) {
	for _, p := range []picture{scene(), drawn(1, 1, of(free)), crowds()[0]} {
		for _, g := range noGeometries(p.g) {
			refused(t, g, g, p.words)
			if n := total(g); n >= 0 && n < 5000 {
				refused(t, g, g, make([]uint64, n))
			}
		}
		n := len(p.words)
		more := append(slices.Clone(p.words), make([]uint64, 200)...)
		for _, words := range [][]uint64{nil, {}, p.words[:1], p.words[:8], p.words[:n-1], p.words[1:], p.words[:n-64], p.words[:n-72], more[:n+1], more[:n+8], more[:n+64], more[:n+72], more} {
			refused(t, len(words), p.g, words)
		}
		for _, g := range everyGeometry() {
			if total(g) != n {
				refused(t, g, g, p.words)
			}
		}
	}
}

// Of no words, which are no image, nothing is told, of whatever geometry.
func TestP13_1NoWords(t *testing.T) {
	for _, g := range append(everyGeometry(), noGeometries(scene().g)...) {
		refused(t, g, g, nil)
	}
}

// The order of spans and of pointers makes no difference: what is told rises by addresses, and has each object once.
func TestP13_1Rising(t *testing.T) {
	for _, p := range crowds() {
		live, e := mark.Reach(p.g, p.words)
		if e != api.OK {
			t.Fatal(p.heads, e)
		}
		for i := 1; i < len(live); i++ {
			if live[i-1].At >= live[i].At {
				t.Fatalf("%v: %d ahead of %d", p.heads, live[i-1].At, live[i].At)
			}
		}
		roots := p.words[rootAt(0):rootAt(p.g.Roots)]
		slices.Reverse(roots)
		reaches(t, p.heads, p, mark.Garbage(p.g, p.words), live...)
	}
}

// Maps and kept heads of what is reached, against the model.
func TestP13_2Reached(t *testing.T) {
	for _, p := range crowds() {
		live, _ := mark.Reach(p.g, p.words)
		sorts(t, p, live)
	}
}

func TestP13_2Scene(t *testing.T) {
	p := scene()
	live := sceneLive(p)
	if got := mark.Maps(p.g, live); !slices.Equal(got, []uint64{1 + 1<<15, 0, 1, 0, 1 << 31, 2}) {
		t.Errorf("%x", got)
	}
	if got := mark.Keeps(p.g, p.heads, live); !slices.Equal(got, p.heads) {
		t.Error(got)
	}
	if got := mark.Keeps(p.g, p.heads, live[:2]); !slices.Equal(got, of(small(1), free, free, free, free, free)) {
		t.Error(got)
	}
	if got := mark.Keeps(p.g, p.heads, live[2:3]); !slices.Equal(got, of(free, free, large(2), more(1), free, free)) {
		t.Error(got)
	}
}

// Each part of what is reached, in its order, backwards, and each object twice.
func TestP13_2Parts(t *testing.T) {
	p := scene()
	live := sceneLive(p)
	for which := range 1 << len(live) {
		var part []api.Live
		for i, l := range live {
			if which>>i&1 == 1 {
				part = append(part, l)
			}
		}
		sorts(t, p, part)
		slices.Reverse(part)
		sorts(t, p, part)
		sorts(t, p, slices.Concat(part, part))
	}
}

// Each block of each span alone, of regions with all lists of heads.
func TestP13_2EachBlock(t *testing.T) {
	for i, heads := range layouts() {
		p := drawn(1+i%4, 1+i%8, heads)
		for _, b := range blocks(p.g, heads) {
			least, _ := sizes(b.head)
			sorts(t, p, []api.Live{p.one(b.spot.Span, b.spot.Index, least, 0, 1)})
		}
		sorts(t, p, nil)
		sorts(t, p, []api.Live{})
	}
}

// Of no objects no bit is set, and all heads are free ones.
func TestP13_2None(t *testing.T) {
	for _, g := range everyGeometry() {
		for _, live := range [][]api.Live{nil, {}} {
			if got := mark.Maps(g, live); !slices.Equal(got, make([]uint64, g.Spans)) {
				t.Fatalf("%v: %x", g, got)
			}
			for _, h := range every() {
				if got := mark.Keeps(g, slices.Repeat(of(h), g.Spans), live); !slices.Equal(got, make([]api.Head, g.Spans)) {
					t.Fatalf("%v, %v: %v", g, h, got)
				}
			}
		}
	}
}

// Heads are kept as they are, whatever they are, also such as may not be: only where the objects are counts.
func TestP13_2AnyHeads(t *testing.T) {
	p := scene()
	odd := of(api.Head{Kind: 9, Class: -1, Many: math.MaxInt}, api.Head{Kind: -1}, free, api.Head{Kind: 3, Class: 4, Many: 77}, small(5), large(0))
	for i, l := range sceneLive(p) {
		spans := [][]int{{0}, {0}, {2, 3}, {4}, {5}}[i]
		want := make([]api.Head, 6)
		for _, span := range spans {
			want[span] = odd[span]
		}
		if got := mark.Keeps(p.g, odd, []api.Live{l}); !slices.Equal(got, want) {
			t.Errorf("%v: %v, not %v", l, got, want)
		}
	}
}

// Geometries that may not be, and heads that aren't as many as there are spans.
func TestP13_2NoAnswer(t *testing.T) {
	p := scene()
	live := sceneLive(p)
	for _, g := range noGeometries(p.g) {
		for n := range 20 {
			heads := slices.Repeat(of(small(1)), n)
			if got := mark.Keeps(g, heads, live); len(got) != 0 {
				t.Fatalf("%v: kept %v", g, got)
			}
		}
		if got := mark.Maps(g, live); len(got) != 0 {
			t.Fatalf("%v: maps %x", g, got)
		}
	}
	for _, g := range everyGeometry() {
		for n := range 20 {
			if got := mark.Keeps(g, slices.Repeat(of(small(1)), n), live); n != g.Spans && len(got) != 0 || n == g.Spans && len(got) != n {
				t.Fatalf("%v, %d heads: kept %v", g, n, got)
			}
		}
		if got := mark.Maps(g, live); len(got) != g.Spans {
			t.Fatalf("%v: maps %x", g, got)
		}
	}
	for _, heads := range [][]api.Head{nil, {}} {
		if got := mark.Keeps(p.g, heads, live); len(got) != 0 {
			t.Error(got)
		}
	}
}

// Objects of spans that there aren't, and of blocks that no map has, turn nothing of what is told of the others.
func TestP13_2OtherSpans(t *testing.T) {
	p := scene()
	want, kept := mark.Maps(p.g, sceneLive(p)[:2]), mark.Keeps(p.g, p.heads, sceneLive(p)[:2])
	for _, span := range []int{-1, 6, 7, 16, 64, -6, -64, math.MaxInt, math.MinInt, math.MinInt + 1, math.MinInt + 6, math.MaxInt - 5, math.MinInt / 64, 1 << 32, 1 << 58, 1 << 62, -1 << 62, -1 << 58, 1 - 1<<58} {
		for _, index := range []int{0, 3, 63, 64, -1, math.MinInt} {
			for _, words := range []int{2, 64, 256, 0, -1, math.MaxInt, math.MinInt} {
				live := []api.Live{sceneLive(p)[0], {At: p.at(5, 0), Object: api.Object{Refs: 1, Words: 3}, Spot: api.Spot{Span: span, Index: index, Words: words}}, sceneLive(p)[1]}
				if got := mark.Maps(p.g, live); !slices.Equal(got, want) {
					t.Fatalf("%v: maps %x, not %x", live, got, want)
				}
				if got := mark.Keeps(p.g, p.heads, live); !slices.Equal(got, kept) {
					t.Fatalf("%v: kept %v, not %v", live, got, kept)
				}
			}
		}
	}
	for _, index := range []int{-1, 64, 65, 127, 128, math.MaxInt, math.MinInt, 1 << 32, 1<<32 + 3} {
		live := append(sceneLive(p)[:2], api.Live{At: p.at(0, 3), Object: api.Object{Refs: 1, Words: 3}, Spot: api.Spot{Span: 0, Index: index, Words: 4}})
		if got := mark.Maps(p.g, live); !slices.Equal(got, want) {
			t.Fatalf("%v: maps %x, not %x", live, got, want)
		}
	}
}

// Spots whose words are any number: the calls end, tell as many as there are spans, and keep the heads of the object's own span at least.
func TestP13_2AnyWords(t *testing.T) {
	p := scene()
	for span := range p.g.Spans {
		for _, words := range []int{math.MaxInt, math.MaxInt - 63, 1 << 62, 1 << 58, 320, 256, 64, 63, 1, 0, -1, -64, math.MinInt} {
			l := api.Live{At: p.at(span, 0), Spot: api.Spot{Span: span, Words: words}}
			got := mark.Keeps(p.g, p.heads, []api.Live{l})
			if len(got) != p.g.Spans || got[span] != p.heads[span] || !slices.Equal(got[:span], make([]api.Head, span)) {
				t.Fatalf("%v: %v", l, got)
			}
		}
	}
}

// What is garbage: all blocks with a bit, if no root points to anything; without those that roots lead to, if some do.
func TestP13_3Crowds(t *testing.T) {
	for _, p := range crowds() {
		live, _ := mark.Reach(p.g, p.words)
		garbage := mark.Garbage(p.g, p.words)
		clear(p.words[rootAt(0):rootAt(8)])
		reaches(t, p.heads, p, garbage+len(live))
	}
}

// One block of garbage, of each block of each span, whatever its words are.
func TestP13_3EachBlock(t *testing.T) {
	for i, heads := range layouts() {
		p := drawn(1+i%4, 1+i%8, heads)
		for _, b := range blocks(p.g, heads) {
			for _, x := range []uint64{0, firstWord(1, 0, 1), full} {
				p.words[b.at] = x
				p.words[headAt(p.g, b.spot.Span)+1] = 1 << b.spot.Index
				reaches(t, b, p, 1)
			}
			p.words[headAt(p.g, b.spot.Span)+1] = 0
			reaches(t, b, p, 0)
		}
	}
}

// Each bit of each span's map, alone: bits for blocks that the span doesn't have, bits of free spans, of a large block's other spans, and of spans that aren't whole, aren't counted.
func TestP13_3EachBit(t *testing.T) {
	for i, heads := range layouts() {
		p := drawn(1+i%4, 1+i%8, heads)
		for span := range p.g.Spans {
			has := map[int]int{}
			for _, b := range blocks(p.g, heads) {
				if b.spot.Span == span {
					has[b.spot.Index] = 1
				}
			}
			for bit := range 64 {
				p.words[headAt(p.g, span)+1] = 1 << bit
				reaches(t, [2]int{span, bit}, p, has[bit])
			}
			p.words[headAt(p.g, span)+1] = full
			reaches(t, span, p, len(has))
			p.words[headAt(p.g, span)+1] = 0
		}
	}
}

// All maps full: all blocks are garbage, but those that are reached.
func TestP13_3Full(t *testing.T) {
	for _, p := range crowds() {
		for span := range p.g.Spans {
			p.words[headAt(p.g, span)+1] = full
		}
		live, e := mark.Reach(p.g, p.words)
		if e != api.OK {
			t.Fatal(p.heads, e)
		}
		reaches(t, p.heads, p, len(blocks(p.g, p.heads))-len(live), live...)
	}
}

// The first words of heads alone tell which spans there are: of each list of one or two heads that may be, with full maps.
func TestP13_3Heads(t *testing.T) {
	many := func(h api.Head) int { return []int{0, 32, 16, 8, 4, 1, 0, 0, 0, 0, 0, 0}[slices.Index(every(), h)] }
	for _, a := range every() {
		p := drawn(1, 1, of(a))
		p.words[headAt(p.g, 0)+1] = full
		reaches(t, a, p, many(a))
		for _, b := range every() {
			p := drawn(1, 1, of(a, b))
			p.words[headAt(p.g, 0)+1], p.words[headAt(p.g, 1)+1] = full, full
			want := many(a) + many(b)
			if a == large(2) && b == more(1) {
				want = 1
			}
			if a == large(1) && b == more(1) {
				// The block of one span has no other one, so that the second span is nobody's.
				want = 1
			}
			reaches(t, of(a, b), p, want)
		}
	}
}

func TestP13_3NoImage(t *testing.T) {
	for _, g := range []api.Geometry{{}, {Spans: 1, Lanes: 1, Roots: 1}, {Spans: 16, Lanes: 4, Roots: 8}} {
		if got := mark.Garbage(g, nil); got != -1 {
			t.Error(g, got)
		}
	}
}

// unled are the addresses of all words that no root leads to: all but roots, heads' words, and first words, slots and bits of what is reached.
func unled(p picture, live []api.Live) []int {
	led := map[int]int{}
	for i := range p.g.Roots {
		led[rootAt(i)] = 1
	}
	for span := range p.g.Spans {
		led[headAt(p.g, span)], led[headAt(p.g, span)+1] = 1, 1
	}
	for _, l := range live {
		for i := range 1 + l.Object.Slots {
			led[l.At+i] = 1
		}
	}
	var l []int
	for a := range p.words {
		if led[a] == 0 {
			l = append(l, a)
		}
	}
	return l
}

// Words that no root leads to, each alone, and all of them: whatever they are, the same is told.
func TestP13_4Unled(t *testing.T) {
	for i, p := range append(crowds()[:24], scene()) {
		live, _ := mark.Reach(p.g, p.words)
		garbage := mark.Garbage(p.g, p.words)
		places := unled(p, live)
		for k, a := range places {
			was := p.words[a]
			p.words[a] = []uint64{full, ^was, uint64(p.at(0, 0)), 0, uint64(a)}[(i+k)%5]
			reaches(t, a, p, garbage, live...)
			p.words[a] = was
		}
		for _, x := range []uint64{0, full, 1, uint64(p.at(0, 0)), uint64(p.at(0, 0) + 1), firstWord(1, 1, 1)} {
			for _, a := range places {
				p.words[a] = x
			}
			reaches(t, x, p, garbage, live...)
		}
	}
}

// Bits of blocks that no root leads to turn what is garbage alone.
func TestP13_4UnledBits(t *testing.T) {
	for _, p := range crowds() {
		live, _ := mark.Reach(p.g, p.words)
		for span, set := range mark.Maps(p.g, live) {
			p.words[headAt(p.g, span)+1] = set
		}
		reaches(t, p.heads, p, 0, live...)
	}
}

// Spans in which nothing is reached may be anything.
func TestP13_4UnledHeads(t *testing.T) {
	p := scene()
	for _, h := range every() {
		p.words[headAt(p.g, 1)] = headWord(h)
		p.words[headAt(p.g, 1)+1] = 0
		reaches(t, h, p, 3, sceneLive(p)...)
	}
	// The large block's other span alone can't be another one.
	for _, h := range every() {
		p.words[headAt(p.g, 3)] = headWord(h)
		if h != more(1) {
			refused(t, h, p.g, p.words)
		}
	}
}

// An image without pointers reaches nothing, whatever its other words are.
func TestP13_4NoPointers(t *testing.T) {
	for i, g := range everyGeometry() {
		d := dice(i)
		p := picture{g: g}
		for range g.Spans {
			p.heads = append(p.heads, every()[d.below(12)])
		}
		p.words = image.Fresh(g)
		for a := range p.words {
			p.words[a] = d.word()
		}
		for span, h := range p.heads {
			p.words[headAt(g, span)] = headWord(h)
		}
		for root := range g.Roots {
			p.words[rootAt(root)] = 0
		}
		m, ok := plain(g, p.words)
		if !ok || len(m.live) > 0 {
			t.Fatal(g)
		}
		reaches(t, g, p, m.garbage)
	}
}

// Of objects that are reached no more are told than roots lead to: each root taken away takes what it alone led to.
func TestP13_4RootsTaken(t *testing.T) {
	for _, p := range crowds() {
		for i := range p.g.Roots {
			agrees(t, i, p)
			p.words[rootAt(i)] = 0
		}
		reaches(t, p.heads, p, mark.Garbage(p.g, p.words))
	}
}

// asked is all that is told of a picture, as a text.
func asked(p picture, live []api.Live) string {
	l, e := mark.Reach(p.g, p.words)
	return fmt.Sprint(l, e, mark.Garbage(p.g, p.words), mark.Maps(p.g, live), mark.Keeps(p.g, p.heads, live))
}

// What is handed in stays as it is, its spare room too, of images that can be marked, and of others.
func TestP13_4Unchanged(t *testing.T) {
	broken := scene()
	broken.words[broken.at(5, 1)+15] = 3
	for _, p := range append(crowds(), scene(), broken) {
		live, _ := plain(p.g, p.words)
		words := append(slices.Clone(p.words), 1, 2, 3)
		heads := append(slices.Clone(p.heads), small(2), large(3))
		objects := append(slices.Clone(live.live), api.Live{At: 7}, api.Live{At: 8})
		in := picture{p.g, heads[:len(p.heads)], words[:len(p.words)]}
		asked(in, objects[:len(live.live)])
		if !slices.Equal(words, append(slices.Clone(p.words), 1, 2, 3)) || !slices.Equal(heads, append(slices.Clone(p.heads), small(2), large(3))) {
			t.Fatalf("%v: turned", p.heads)
		}
		if !slices.Equal(objects, append(slices.Clone(live.live), api.Live{At: 7}, api.Live{At: 8})) {
			t.Fatalf("%v: objects turned", p.heads)
		}
	}
}

// What a caller does with an answer turns neither what was handed in nor another answer; and what is done to what was handed in turns no answer.
func TestP13_4Unshared(t *testing.T) {
	for _, p := range append(crowds(), scene()) {
		was := p.copied()
		objects, _ := mark.Reach(p.g, p.words)
		want := asked(p, objects)
		live, sets, heads := answers(p, objects)
		mine, mySets, myHeads := slices.Clone(live), slices.Clone(sets), slices.Clone(heads)
		spoiled, spoiledSets, spoiledHeads := answers(p, objects)
		for i := range spoiled {
			spoiled[i] = api.Live{At: -1}
		}
		for i := range p.g.Spans {
			spoiledSets[i], spoiledHeads[i] = ^spoiledSets[i], api.Head{Kind: -1}
		}
		_, _, _ = append(spoiled, api.Live{At: -2}), append(spoiledSets, 1), append(spoiledHeads, small(1))
		if !slices.Equal(p.words, was.words) || !slices.Equal(p.heads, was.heads) || asked(p, objects) != want {
			t.Fatalf("%v: turned by what was done with an answer", p.heads)
		}
		clear(p.words)
		clear(p.heads)
		clear(objects)
		if !slices.Equal(live, mine) || !slices.Equal(sets, mySets) || !slices.Equal(heads, myHeads) {
			t.Fatalf("%v: an answer turned with another one, or with what was handed in", was.heads)
		}
	}
}

// answers are those that have lists: what is reached, and maps and kept heads of objects.
func answers(p picture, objects []api.Live) ([]api.Live, []uint64, []api.Head) {
	live, _ := mark.Reach(p.g, p.words)
	return live, mark.Maps(p.g, objects), mark.Keeps(p.g, p.heads, objects)
}

// What was asked ahead of it turns no answer.
func TestP13_4Same(t *testing.T) {
	p := scene()
	want := asked(p, sceneLive(p))
	for _, other := range crowds() {
		asked(other, nil)
		mark.Reach(p.g, other.words)
		mark.Reach(other.g, p.words)
		if got := asked(p, sceneLive(p)); got != want {
			t.Fatalf("%v: %s, not %s", other.heads, got, want)
		}
	}
}
