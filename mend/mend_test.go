package mend_test

import (
	"fmt"
	"hash/crc32"
	"math"
	"slices"
	"testing"

	"trencher/api"
	"trencher/image"
	"trencher/mark"
	"trencher/mend"
)

// full is the word whose bits are all 1.
const full = math.MaxUint64

// free is the head of a span that is free.
var free = api.Head{}

// small is the head of a span whose blocks are of a class.
func small(class int) api.Head { return api.Head{Kind: 1, Class: class} }

// large is the head of the first span of a block of so many.
func large(many int) api.Head { return api.Head{Kind: 2, Class: 4, Many: many} }

// more is the head of a span that is so many behind the first one of its block.
func more(many int) api.Head { return api.Head{Kind: 3, Class: 4, Many: many} }

// every has all heads that may be.
func every() []api.Head {
	return []api.Head{free, small(0), small(1), small(2), small(3), large(1), large(2), large(3), large(4), more(1), more(2), more(3)}
}

// block has the heads of a large block's spans.
func block(many int) []api.Head {
	return []api.Head{large(many), more(1), more(2), more(3)}[:many]
}

// of is a list of these heads.
func of(heads ...api.Head) []api.Head { return heads }

// join has lists of heads, one behind the other.
func join(lists ...[]api.Head) []api.Head { return slices.Concat(lists...) }

// Where the parts of a region begin, and how many words it has, by the document's numbers.
func rootAt(i int) int                    { return 8 + i }
func laneAt(lane int) int                 { return 16 + 40*lane }
func entryAt(lane, i int) int             { return 24 + 40*lane + 2*i }
func headAt(g api.Geometry, span int) int { return 16 + 40*g.Lanes + 8*span }
func spanAt(g api.Geometry, span int) int { return 16 + 40*g.Lanes + 8*g.Spans + 64*span }
func total(g api.Geometry) int            { return 16 + 40*g.Lanes + 72*g.Spans }

// everyGeometry are all that may be.
func everyGeometry() []api.Geometry {
	var l []api.Geometry
	for spans := 1; spans <= 16; spans++ {
		for lanes := 1; lanes <= 4; lanes++ {
			for roots := 1; roots <= 8; roots++ {
				l = append(l, api.Geometry{Spans: spans, Lanes: lanes, Roots: roots})
			}
		}
	}
	return l
}

// may tells whether a geometry is one of those.
func may(g api.Geometry) bool {
	return g.Spans > 0 && g.Spans < 17 && g.Lanes > 0 && g.Lanes < 5 && g.Roots > 0 && g.Roots < 9
}

// A dice tells numbers that look as if they were by chance, the same each time.
type dice uint64

func (d *dice) word() uint64 {
	*d = *d*6364136223846793005 + 1442695040888963407
	return uint64(*d) ^ uint64(*d)>>29
}

func (d *dice) below(n int) int { return int(d.word() >> 33 % uint64(n)) }

// order has the numbers below n, mixed.
func (d *dice) order(n int) []int {
	var l []int
	for i := range n {
		l = slices.Insert(l, d.below(i+1), i)
	}
	return l
}

// crc is the sum of words, by the library.
func crc(words ...uint64) uint64 {
	var b []byte
	for _, w := range words {
		for range 8 {
			b = append(b, byte(w%256))
			w /= 256
		}
	}
	return uint64(crc32.ChecksumIEEE(b))
}

// seal is the seal of words.
func seal(words ...uint64) uint64 {
	return 1<<63 + uint64(len(words))<<32 + crc(words...)
}

// super is a geometry's superblock, word by word as the document has it.
func super(g api.Geometry) []uint64 {
	l := []uint64{0x7472656e63686572, 3, uint64(g.Spans) + uint64(g.Lanes)*65536 + uint64(g.Roots)*65536*65536, uint64(total(g)), 0, 0, 0}
	return append(l, seal(l...))
}

// headWord is the word of a head that may be, as the document has it.
func headWord(h api.Head) uint64 {
	if h == free {
		return 0
	}
	x := uint64(h.Kind) + uint64(h.Class)*4 + uint64(h.Many)*32
	return x + crc(x)<<32
}

// headsBy has the heads by their words.
var headsBy = func() map[uint64]api.Head {
	m := map[uint64]api.Head{}
	for _, h := range every() {
		m[headWord(h)] = h
	}
	return m
}()

// noHeadWords are words that are no head's: the edges, some whose sum fits fields that may not be, and heads' words with a bit turned.
func noHeadWords() []uint64 {
	l := []uint64{1, 2, 3, 4, 77, full, 1 << 31, 1 << 32, 1 << 63}
	for _, x := range []uint64{0, 4, 32, 1 + 4<<2, 1 + 1<<5, 2 + 4<<2, 2 + 4<<2 + 5<<5, 2 + 3<<2 + 1<<5, 3 + 4<<2, 3 + 4<<2 + 4<<5, 1 + 1<<8} {
		l = append(l, x+crc(x)<<32)
	}
	for _, h := range every() {
		for _, bit := range []int{0, 2, 5, 8, 31, 32, 63} {
			l = append(l, headWord(h)^1<<bit)
		}
	}
	return l
}

// firstWord is an object's first word.
func firstWord(refs, slots, words int) uint64 {
	return uint64(refs) + uint64(slots)*65536 + uint64(words)*16777216
}

// classOf is the class of an object of so many words, and how many spans its block takes; -1, if there is none.
func classOf(words int) (class, spans int) {
	switch {
	case words < 1 || words > 255:
		return -1, 0
	case words == 1:
		return 0, 0
	case words <= 3:
		return 1, 0
	case words <= 7:
		return 2, 0
	case words <= 15:
		return 3, 0
	}
	return 4, words/64 + 1
}

// logWords are a log's words, as the document has them.
func logWords(l []api.Entry) []uint64 {
	words := make([]uint64, 2*len(l))
	for i, e := range l {
		words[2*i] = uint64(e.At) + uint64(i)*4294967296
		words[2*i+1] = e.X
	}
	return words
}

// counts is the log of a lane's seal and its entries' words, found by trying each length; none, if the lane doesn't count.
func counts(x uint64, words []uint64) []api.Entry {
	for n := 1; n <= 16 && x != 0; n++ {
		var l []api.Entry
		for i := range n {
			l = append(l, api.Entry{At: int(uint32(words[2*i])), X: words[2*i+1]})
		}
		far := slices.ContainsFunc(l, func(e api.Entry) bool { return e.At > 16383 })
		if !far && slices.Equal(logWords(l), words[:2*n]) && x == seal(words[:2*n]...) {
			return l
		}
	}
	return nil
}

// written lays a log into a lane of an image, in place, with its seal.
func written(words []uint64, lane int, l ...api.Entry) {
	copy(words[entryAt(lane, 0):laneAt(lane)+40], logWords(l))
	words[laneAt(lane)] = seal(logWords(l)...)
}

// writable tells whether a log may write at an address.
func writable(g api.Geometry, a int) bool {
	switch {
	case a >= spanAt(g, 0):
		return a < total(g)
	case a >= headAt(g, 0):
		return a%8 < 2
	}
	return a >= 8 && a < 8+g.Roots
}

// geometryOf is the geometry whose superblock words begin with, if they are as many as it says.
func geometryOf(words []uint64) (api.Geometry, bool) {
	if len(words) < 8 {
		return api.Geometry{}, false
	}
	x := words[2]
	g := api.Geometry{Spans: int(x % 65536), Lanes: int(x / 65536 % 65536), Roots: int(x / 65536 / 65536 % 65536)}
	return g, may(g) && len(words) == total(g) && slices.Equal(words[:8], super(g))
}

// replayed is an image replayed, by the long way; false, if it can't be.
func replayed(words []uint64) ([]uint64, bool) {
	g, ok := geometryOf(words)
	if !ok {
		return nil, false
	}
	l := slices.Clone(words)
	for lane := range g.Lanes {
		for _, e := range counts(words[laneAt(lane)], words[entryAt(lane, 0):laneAt(lane)+40]) {
			if !writable(g, e.At) {
				return nil, false
			}
			l[e.At] = e.X
		}
		l[laneAt(lane)] = 0
	}
	return l, true
}

// A found is a block: where it begins, its spot, and its span's head.
type found struct {
	at   int
	spot api.Spot
	head api.Head
}

// blocks are those of all whole spans, by rising addresses.
func blocks(g api.Geometry, heads []api.Head) []found {
	var l []found
	for span, h := range heads {
		begin := spanAt(g, span)
		switch {
		case h.Kind == 1:
			words := []int{2, 4, 8, 16}[h.Class]
			for i := range 64 / words {
				l = append(l, found{begin + i*words, api.Spot{Span: span, Index: i, Words: words}, h})
			}
		case h.Kind == 2 && span+h.Many <= len(heads) && slices.Equal(heads[span:span+h.Many], block(h.Many)):
			l = append(l, found{begin, api.Spot{Span: span, Words: 64 * h.Many}, h})
		}
	}
	return l
}

// isLive is the object in a block, if a pointer to it is right.
func isLive(g api.Geometry, words []uint64, b found) (api.Live, bool) {
	x := words[b.at]
	slots, n := int(x/65536%256), int(x/16777216%256)
	class, spans := classOf(n)
	bit := words[headAt(g, b.spot.Span)+1] >> b.spot.Index & 1
	ok := x < 1<<32 && bit == 1 && n > 0 && slots <= n && class == b.head.Class && spans == b.head.Many
	return api.Live{At: b.at, Object: api.Object{Slots: slots, Words: n}, Spot: b.spot}, ok
}

// reached is what an image reaches as it stands, by rising addresses; false, if it can't be marked. It looks at all blocks again and again, till no more are come to.
func reached(g api.Geometry, words []uint64) ([]api.Live, bool) {
	var heads []api.Head
	for span := range g.Spans {
		h, ok := headsBy[words[headAt(g, span)]]
		if !ok {
			return nil, false
		}
		heads = append(heads, h)
	}
	right := map[uint64]api.Live{}
	for _, b := range blocks(g, heads) {
		if l, ok := isLive(g, words, b); ok {
			right[uint64(b.at)] = l
		}
	}
	refs := map[uint64]int{}
	for was := -1; was != len(refs); {
		was = len(refs)
		again := map[uint64]int{}
		for i := range g.Roots {
			again[words[rootAt(i)]]++
		}
		for at := range refs {
			for slot := range right[at].Object.Slots {
				again[words[int(at)+1+slot]]++
			}
		}
		delete(again, 0)
		for at := range again {
			if _, ok := right[at]; !ok {
				return nil, false
			}
		}
		refs = again
	}
	var live []api.Live
	for at, n := range refs {
		l := right[at]
		l.Object.Refs = n
		live = append(live, l)
	}
	slices.SortFunc(live, func(a, b api.Live) int { return a.At - b.At })
	return live, true
}

// standing is an image mended as it stands, by the long way; false, if its superblock doesn't fit, or it can't be marked.
func standing(words []uint64) ([]uint64, bool) {
	g, ok := geometryOf(words)
	if !ok {
		return nil, false
	}
	live, ok := reached(g, words)
	if !ok {
		return nil, false
	}
	l := slices.Clone(words)
	for span := range g.Spans {
		l[headAt(g, span)], l[headAt(g, span)+1] = 0, 0
	}
	for _, o := range live {
		for a := o.At; a < o.At+o.Spot.Words; a++ {
			in := headAt(g, (a-spanAt(g, 0))/64)
			l[in] = words[in]
		}
		l[headAt(g, o.Spot.Span)+1] += 1 << o.Spot.Index
		l[o.At] = firstWord(o.Object.Refs, o.Object.Slots, o.Object.Words)
	}
	return l, true
}

// differing are the words in which another image differs from one, as entries.
func differing(from, to []uint64) []api.Entry {
	var l []api.Entry
	for a := range from {
		if from[a] != to[a] {
			l = append(l, api.Entry{At: a, X: to[a]})
		}
	}
	return l
}

// becomes checks that an image is mended to another one.
func becomes(t *testing.T, what any, words, want []uint64) {
	t.Helper()
	got, e := mend.Mended(words)
	if e != api.OK || len(got) != len(want) {
		t.Fatalf("%v: mended as %d words, not %d, %d", what, len(got), len(want), e)
	}
	if l := differing(want, got); len(l) > 0 {
		t.Fatalf("%v: mended otherwise: %v", what, l)
	}
}

// isRefused checks that an image can't be mended, and that no word is told beside that, nor that it is sound.
func isRefused(t *testing.T, what any, words []uint64) {
	t.Helper()
	if got, e := mend.Mended(words); len(got) != 0 || e != api.ErrCorrupt {
		t.Fatalf("%v: mended as %d words, %d", what, len(got), e)
	}
	if mend.Sound(words) {
		t.Fatalf("%v: sound", what)
	}
}

// needs checks that just these are the fixes of an image.
func needs(t *testing.T, what any, words []uint64, want ...api.Entry) {
	t.Helper()
	if got, e := mend.Fixes(words); e != api.OK || !slices.Equal(got, want) {
		t.Fatalf("%v: fixes %v, %d, not %v", what, got, e, want)
	}
}

// hasNoFixes checks that an image is corrupt as it stands, and that no fix is told beside that.
func hasNoFixes(t *testing.T, what any, words []uint64) {
	t.Helper()
	if got, e := mend.Fixes(words); len(got) != 0 || e != api.ErrCorrupt {
		t.Fatalf("%v: fixes %v, %d", what, got, e)
	}
}

// isSound checks whether an image is.
func isSound(t *testing.T, what any, words []uint64, want bool) {
	t.Helper()
	if got := mend.Sound(words); got != want {
		t.Fatalf("%v: sound: %v", what, got)
	}
}

// mends checks that an image is mended as the model does it, and tells whether it can be.
func mends(t *testing.T, what any, words []uint64) bool {
	t.Helper()
	l, ok := replayed(words)
	if ok {
		l, ok = standing(l)
	}
	if !ok {
		isRefused(t, what, words)
		return false
	}
	becomes(t, what, words, l)
	isSound(t, what, words, slices.Equal(l, words))
	return true
}

// stands checks that an image's fixes are the model's, and tells whether it can be marked as it stands.
func stands(t *testing.T, what any, words []uint64) bool {
	t.Helper()
	l, ok := standing(words)
	if !ok {
		hasNoFixes(t, what, words)
		return false
	}
	needs(t, what, words, differing(words, l)...)
	return true
}

// agrees checks that all that is told of an image is what the model tells; it tells whether it can be mended.
func agrees(t *testing.T, what any, words []uint64) bool {
	t.Helper()
	stands(t, what, words)
	return mends(t, what, words)
}

// corrupt checks that nothing is told of an image, and that the model refuses it, too.
func corrupt(t *testing.T, what any, words []uint64) {
	t.Helper()
	isRefused(t, what, words)
	hasNoFixes(t, what, words)
	if _, ok := standing(words); ok {
		t.Fatalf("%v: the model mends it", what)
	}
}

// A picture is an image that is drawn: its geometry, its heads, its words.
type picture struct {
	g     api.Geometry
	heads []api.Head
	words []uint64
}

// drawn is a picture of just the spans of these heads, without objects.
func drawn(lanes, roots int, heads []api.Head) picture {
	g := api.Geometry{Spans: len(heads), Lanes: lanes, Roots: roots}
	p := picture{g, heads, append(super(g), make([]uint64, total(g)-8)...)}
	for span, h := range heads {
		p.words[headAt(g, span)] = headWord(h)
	}
	return p
}

// copied is a picture like another one.
func (p picture) copied() picture {
	return picture{p.g, slices.Clone(p.heads), slices.Clone(p.words)}
}

// at is where a block of a span begins.
func (p picture) at(span, index int) int {
	return spanAt(p.g, span) + index*[]int{2, 4, 8, 16, 64}[p.heads[span].Class]
}

// mapAt is where a span's map stands.
func (p picture) mapAt(span int) int { return headAt(p.g, span) + 1 }

// lay lays an object into a block of a span, with its bit, and tells where. What isn't one of its pointers, of its other slots, stays 0; its Refs, its data, and what is unused behind them, look like anything.
func (p picture) lay(span, index, words, slots int, pointers ...int) int {
	at := p.at(span, index)
	d := dice(at)
	p.words[at] = firstWord(2000+d.below(60000), slots, words)
	size := []int{2, 4, 8, 16, 64 * p.heads[span].Many}[p.heads[span].Class]
	for a := at + 1 + slots; a < at+size; a++ {
		p.words[a] = d.word()
	}
	for i := range slots {
		p.words[at+1+i] = 0
	}
	for i, to := range pointers {
		p.words[at+1+i] = uint64(to)
	}
	p.words[p.mapAt(span)] |= 1 << index
	return at
}

// roots lets the first roots point.
func (p picture) roots(pointers ...int) picture {
	for i, to := range pointers {
		p.words[rootAt(i)] = uint64(to)
	}
	return p
}

// layouts are lists of heads: of one span, of some, and of as many as there may be; also such in which spans aren't whole.
func layouts() [][]api.Head {
	l := [][]api.Head{
		join(of(free, small(0)), block(4), of(small(1)), block(3), of(small(2), free), block(1), block(2), of(small(3))),
		join(of(small(3), small(2), small(1), small(0), free), block(2), block(2), block(4), block(1), of(small(0), small(3))),
		join(block(4), block(4), block(4), block(4)),
		slices.Repeat(of(small(0)), 16),
		slices.Repeat(of(free), 16),
		join(block(3), of(more(3)), block(2), of(more(2), more(3), small(1))),
		join(of(more(1), more(2), more(3)), block(4), of(more(1), small(1), large(2))),
		join(of(large(3), more(1), small(0), large(2), large(2), more(1)), block(4)[:3], of(small(3))),
		of(large(2)), of(more(1)), of(small(2), large(4)), of(free, small(1), free),
	}
	for class := range 4 {
		l = append(l, of(small(class)), of(small(class), small(3-class)))
	}
	for many := 1; many <= 4; many++ {
		l = append(l, block(many), join(of(small(0)), block(many), of(small(3))))
	}
	return l
}

// sizes are the least and the greatest numbers of words of objects that a block has room for.
func sizes(h api.Head) (least, most int) {
	if h.Kind == 2 {
		return max(16, 64*h.Many-64), 64*h.Many - 1
	}
	return []int{1, 2, 4, 8}[h.Class], []int{1, 3, 7, 15}[h.Class]
}

// crowded is a picture with objects in many blocks, whose slots and roots point to one another, and garbage; in each slot, by a wrong number in so many, stands something else.
func crowded(seed int, heads []api.Head, wrong int) picture {
	d := dice(seed)
	p := drawn(1+d.below(4), 1+d.below(8), heads)
	all := blocks(p.g, heads)
	var there []int
	for _, b := range all {
		if d.below(4) > 0 {
			there = append(there, b.at)
		}
	}
	pointer := func() int {
		switch {
		case wrong > 0 && d.below(wrong) == 0:
			return d.below(total(p.g))
		case d.below(3) == 0 || len(there) == 0:
			return 0
		}
		return there[d.below(len(there))]
	}
	for _, b := range all {
		if !slices.Contains(there, b.at) {
			continue
		}
		least, most := sizes(b.head)
		words := least + d.below(most-least+1)
		slots := []int{0, words, d.below(words + 1), min(2, words)}[d.below(4)]
		var pointers []int
		for range slots {
			pointers = append(pointers, pointer())
		}
		p.lay(b.spot.Span, b.spot.Index, words, slots, pointers...)
	}
	for i := range p.g.Roots {
		p.words[rootAt(i)] = uint64(pointer())
	}
	return p
}

// crowds are crowded pictures, of each list of heads some, all of which can be marked.
func crowds() []picture {
	var l []picture
	for i, heads := range layouts() {
		for k := range 4 {
			l = append(l, crowded(i*100+k, heads, 0))
		}
	}
	return l
}

// spoiled is a picture in which all words that lead nowhere look like anything: unused ones, lanes that don't count, more bits in all maps, and blocks without objects.
func spoiled(seed int, p picture) picture {
	d, q := dice(seed), p.copied()
	live, _ := reached(p.g, p.words)
	led := map[int]int{}
	for _, l := range live {
		for i := range 1 + l.Object.Slots {
			led[l.At+i] = 1
		}
	}
	for a := 8; a < total(q.g); a++ {
		root, head := a < 8+q.g.Roots, a >= headAt(q.g, 0) && a < spanAt(q.g, 0)
		switch {
		case root || head && a%8 == 0 || led[a] == 1:
		case head && a%8 == 1:
			q.words[a] |= d.word() & d.word()
		default:
			q.words[a] = d.word()
		}
	}
	return q
}

// logged is a picture with logs in some lanes, which write roots, heads, maps, and words of the heap; by seldom one in so many writes something that may not be.
func logged(seed int, p picture, seldom int) picture {
	d, q := dice(seed), p.copied()
	all := blocks(q.g, q.heads)
	for lane := range q.g.Lanes {
		if d.below(3) == 0 {
			continue
		}
		var log []api.Entry
		for range 1 + d.below(16) {
			span := d.below(q.g.Spans)
			e := api.Entry{At: rootAt(d.below(q.g.Roots))}
			kind := d.below(6)
			switch {
			case d.below(seldom) == 0:
				e = api.Entry{At: d.below(total(q.g)), X: uint64(d.below(total(q.g)))}
			case kind == 0:
				e = api.Entry{At: q.mapAt(span), X: q.words[q.mapAt(span)] | d.word()}
			case kind == 1:
				e = api.Entry{At: headAt(q.g, span), X: q.words[headAt(q.g, span)]}
			case kind == 2 && len(all) > 0:
				b := all[d.below(len(all))]
				words, _ := sizes(b.head)
				e = api.Entry{At: b.at, X: firstWord(d.below(65536), 0, words)}
			case kind < 5 && len(all) > 0:
				e.X = uint64(all[d.below(len(all))].at)
				// Some objects aren't there, so that some roots aren't right.
				if q.words[e.X] == 0 {
					e.X = 0
				}
			}
			log = append(log, e)
		}
		written(q.words, lane, log...)
	}
	return q
}

// scene is a small picture: roots 0 and 2 lead, by ways of one, two and three slots, to small objects of some classes, and a large one; there is garbage beside it, which points to what is reached, to itself, and to nothing right. Its Refs are all more than there are.
func scene() picture {
	p := drawn(2, 3, join(of(small(1), free), block(2), of(small(0), small(3))))
	a, b, c, l, w := p.at(0, 0), p.at(0, 15), p.at(4, 31), p.at(2, 0), p.at(5, 1)
	p.lay(0, 0, 3, 2, b, l)
	p.lay(0, 15, 2, 1, a)
	p.lay(4, 31, 1, 1, c)
	p.lay(2, 0, 100, 3, b, 0, c)
	p.lay(5, 1, 15, 15, a, a, 0, w)
	p.lay(0, 3, 3, 3, a, p.at(0, 3), 5)
	p.lay(4, 0, 1, 1, p.at(0, 3))
	p.lay(5, 3, 9, 4, p.at(4, 0), w, p.at(5, 3)+1, total(p.g))
	return p.roots(a, 0, w)
}

// sceneFixes are the scene's, by its addresses as numbers.
func sceneFixes() []api.Entry {
	return []api.Entry{
		{At: 97, X: 1 + 1<<15}, {At: 129, X: 1 << 31}, {At: 137, X: 2},
		{At: 144, X: firstWord(4, 2, 3)}, {At: 204, X: firstWord(2, 1, 2)}, {At: 272, X: firstWord(1, 3, 100)},
		{At: 462, X: firstWord(2, 1, 1)}, {At: 480, X: firstWord(2, 15, 15)},
	}
}

// with is an image with these words stored.
func with(words []uint64, l ...api.Entry) []uint64 {
	turned := slices.Clone(words)
	for _, e := range l {
		turned[e.At] = e.X
	}
	return turned
}

// isMended is what a picture is mended to, of one that can be.
func isMended(t *testing.T, p picture) []uint64 {
	t.Helper()
	words, e := mend.Mended(p.words)
	if e != api.OK {
		t.Fatalf("%v: not mended, %d", p.heads, e)
	}
	return words
}

// A fresh image is sound; mended it is itself. Of all geometries that may be.
func TestP14_1Fresh(t *testing.T) {
	for _, g := range everyGeometry() {
		words := image.Fresh(g)
		becomes(t, g, words, words)
		needs(t, g, words)
		isSound(t, g, words, true)
	}
}

func TestP14_1Scene(t *testing.T) {
	p := scene()
	becomes(t, "scene", p.words, with(p.words, sceneFixes()...))
}

// Without roots nothing is left: all heads are free ones, all maps are empty, and nothing else is turned.
func TestP14_1NothingReached(t *testing.T) {
	for i, p := range crowds() {
		for _, p := range []picture{p, spoiled(i, p)} {
			want := slices.Clone(p.words)
			for root := range p.g.Roots {
				p.words[rootAt(root)], want[rootAt(root)] = 0, 0
			}
			for span := range p.g.Spans {
				want[headAt(p.g, span)], want[p.mapAt(span)] = 0, 0
			}
			for lane := range p.g.Lanes {
				want[laneAt(lane)] = 0
			}
			becomes(t, p.heads, p.words, want)
		}
	}
}

// One object, of each size that there may be, without slots, with one, with some, with slots alone, by each root; what its Refs were makes no difference.
func TestP14_1OneObject(t *testing.T) {
	for words := 1; words <= 255; words++ {
		for k, slots := range []int{0, 1, words / 2, words - 1, words} {
			class, spans := classOf(words)
			heads := of(free, small(class), free)
			if class == 4 {
				heads = join(of(free), block(spans), of(free))
			}
			p := drawn(1+words%4, 8, heads)
			p.words[rootAt((words+k)%8)] = uint64(p.lay(1, 0, words, slots))
			want := with(p.words, api.Entry{At: p.at(1, 0), X: firstWord(1, slots, words)})
			for _, refs := range []int{0, 1, 2, 3, 255, 256, 32768, 65534, 65535} {
				p.words[p.at(1, 0)] = firstWord(refs, slots, words)
				becomes(t, words, p.words, want)
			}
		}
	}
}

// Each block of each span alone, of regions with all lists of heads, with full maps: of spans that the block isn't in heads and maps are none.
func TestP14_1EachBlock(t *testing.T) {
	for i, heads := range layouts() {
		empty := drawn(1+i%4, 1+i%8, heads)
		for span := range heads {
			empty.words[empty.mapAt(span)] = full
		}
		for k, b := range blocks(empty.g, heads) {
			least, most := sizes(b.head)
			p := empty.copied()
			words := []int{least, most}[k%2]
			p.lay(b.spot.Span, b.spot.Index, words, 1)
			p.words[rootAt(k%p.g.Roots)] = uint64(b.at)
			want := slices.Clone(p.words)
			for span := range heads {
				want[p.mapAt(span)] = 0
				if span < b.spot.Span || span >= b.spot.Span+max(1, b.head.Many) {
					want[headAt(p.g, span)] = 0
				}
			}
			want[p.mapAt(b.spot.Span)] = 1 << b.spot.Index
			want[b.at] = firstWord(1, 1, words)
			becomes(t, b, p.words, want)
		}
	}
}

// As many roots and slots as point to an object, from one of them to all of four great objects' slots and all roots, are its Refs.
func TestP14_1Refs(t *testing.T) {
	for _, many := range []int{1, 2, 3, 7, 8, 9, 100, 255, 256, 257, 1000, 1016, 1024} {
		p := drawn(4, 8, slices.Repeat(block(4), 4))
		to := p.at(8, 0)
		p.roots(slices.Repeat([]int{to}, min(many, 8))...)
		left := many - min(many, 8)
		for i := range 4 {
			// One slot of each leads on to the next one, so that all of them are reached.
			here := min(left, 254)
			p.lay(4*i, 0, 255, 255, append(slices.Repeat([]int{to}, here), p.at((4*i+4)%16, 0))...)
			left -= here
		}
		// The object that is pointed to is also one of the chain.
		got := isMended(t, p)
		if got[to] != firstWord(many+1, 255, 255) || got[p.at(0, 0)] != firstWord(1, 255, 255) {
			t.Fatalf("%d: %x", many, got[to])
		}
		mends(t, many, p.words)
	}
}

// Refs that are as many as point to each object stay as they are, all others turn: in a chain, in a ring, in a tree.
func TestP14_1RefsAlone(t *testing.T) {
	p := scene()
	p.words = with(p.words, sceneFixes()...)
	becomes(t, "mended", p.words, p.words)
	for _, fix := range sceneFixes()[3:] {
		for refs := range uint64(65536) {
			if refs > 20 && refs%4099 > 3 && refs < 65530 {
				continue
			}
			becomes(t, fix, with(p.words, api.Entry{At: fix.At, X: fix.X/65536*65536 + refs}), p.words)
		}
	}
}

// Each bit of each map alone, set or clear: bits of garbage, for blocks that the span doesn't have, of free spans, and of a large block's other spans go; a bit of what is reached can't be missed.
func TestP14_1EachBitOfMaps(t *testing.T) {
	p := scene()
	p.words = with(p.words, sceneFixes()...)
	for span := range p.g.Spans {
		for bit := range 64 {
			turned := with(p.words, api.Entry{At: p.mapAt(span), X: p.words[p.mapAt(span)] ^ 1<<bit})
			if p.words[p.mapAt(span)]>>bit&1 == 1 {
				corrupt(t, [2]int{span, bit}, turned)
				continue
			}
			becomes(t, [2]int{span, bit}, turned, p.words)
		}
		becomes(t, span, with(p.words, api.Entry{At: p.mapAt(span), X: full}), p.words)
	}
}

// A span in which nothing is reached is free, whatever its head was, and its map.
func TestP14_1OtherHeads(t *testing.T) {
	for place := range 4 {
		for _, h := range every() {
			for _, set := range []uint64{0, 1, 6, full} {
				heads := of(small(1), small(2), small(3), small(0))
				heads[place] = h
				p := drawn(1, 4, heads)
				for span := range heads {
					if span != place {
						p.words[rootAt(span)] = uint64(p.lay(span, 1, []int{3, 7, 15, 1}[span], 0))
					}
				}
				p.words[p.mapAt(place)] = set
				want := slices.Clone(p.words)
				want[headAt(p.g, place)], want[p.mapAt(place)] = 0, 0
				for span := range heads {
					if span != place {
						want[p.at(span, 1)] = firstWord(1, 0, []int{3, 7, 15, 1}[span])
					}
				}
				becomes(t, h, p.words, want)
			}
		}
	}
}

// Crowded pictures, against the model; spoiled, and with some wrong pointers, too.
func TestP14_1Crowds(t *testing.T) {
	can, cannot := 0, 0
	for i, heads := range layouts() {
		for k := range 20 {
			p := crowded(i*1000+k, heads, 0)
			for _, p := range []picture{p, spoiled(k, p)} {
				if !agrees(t, i, p.words) {
					t.Fatalf("%d, %d: can't be mended", i, k)
				}
			}
			if agrees(t, i, crowded(i*1000+k, heads, 20+10*k).words) {
				can++
			} else {
				cannot++
			}
		}
	}
	if can < 100 || cannot < 100 {
		t.Error(can, cannot)
	}
}

// Crowded pictures with logs, against the model: such that turn what is reached, and some that can't be replayed, or marked then.
func TestP14_1Logs(t *testing.T) {
	can, cannot, turned := 0, 0, 0
	for i, p := range crowds() {
		for k := range 8 {
			q := logged(i*10+k, p, []int{1000, 12}[k%2])
			if !agrees(t, i, q.words) {
				cannot++
				continue
			}
			can++
			r, _ := replayed(q.words)
			was, _ := reached(p.g, p.words)
			is, _ := reached(q.g, r)
			if !slices.Equal(was, is) {
				turned++
			}
		}
	}
	if can < 200 || cannot < 100 || turned < 100 {
		t.Error(can, cannot, turned)
	}
}

// All of some images' words with each bit turned, against the model, also in logs that count.
func TestP14_1EachBit(t *testing.T) {
	q := crowded(8, of(small(3), free), 0)
	written(q.words, 0, api.Entry{At: rootAt(0), X: uint64(q.at(0, 2))}, api.Entry{At: q.mapAt(0), X: 15}, api.Entry{At: q.at(0, 2), X: firstWord(3, 0, 8)})
	for _, p := range []picture{scene(), crowded(3, join(of(small(1)), block(2)), 0), q} {
		for a := range p.words {
			for bit := range 64 {
				p.words[a] ^= 1 << bit
				agrees(t, [2]int{a, bit}, p.words)
				p.words[a] ^= 1 << bit
			}
		}
	}
}

// A log in each lane, in several, and in all: the roots, heads and words that they write are what is mended, and then all seals are 0; the words of logs stay.
func TestP14_1EachLane(t *testing.T) {
	for lanes := 1; lanes <= 4; lanes++ {
		for which := range 1 << lanes {
			p := drawn(lanes, 4, slices.Repeat(of(free), 5))
			want := slices.Clone(p.words)
			for lane := range lanes {
				if which>>lane&1 == 0 {
					continue
				}
				at := p.at(lane+1, 0) + 8*lane
				log := []api.Entry{
					{At: rootAt(lane), X: uint64(at)}, {At: headAt(p.g, lane+1), X: headWord(small(2))}, {At: p.mapAt(lane + 1), X: full},
					{At: at, X: firstWord(9, 2, 4)}, {At: at + 2, X: uint64(at)}, {At: at + 3, X: 77}, {At: p.at(lane+1, 0) + 63, X: 5},
				}
				written(p.words, lane, log...)
				written(want, lane, log...)
				want[laneAt(lane)] = 0
				want = with(want, log...)
				want[p.mapAt(lane+1)] = 1 << lane
				want[at] = firstWord(2, 2, 4)
			}
			becomes(t, which, p.words, want)
			needs(t, which, p.words)
			isSound(t, which, p.words, which == 0)
		}
	}
}

// Logs that turn what is reached: one that takes a root away, one that gives it, one that takes a slot, and the later lane's word where two write the same.
func TestP14_1LogsTurn(t *testing.T) {
	p := scene()
	a, w, c := p.at(0, 0), p.at(5, 1), p.at(4, 31)
	none := with(p.words, api.Entry{At: rootAt(0), X: 0}, api.Entry{At: rootAt(2), X: 0})
	written(p.words, 0, api.Entry{At: rootAt(0), X: uint64(c)}, api.Entry{At: rootAt(2), X: 0})
	got := isMended(t, p)
	if got[p.mapAt(4)] != 1<<31 || got[c] != firstWord(2, 1, 1) || got[headAt(p.g, 0)] != 0 || got[headAt(p.g, 2)] != 0 || got[headAt(p.g, 3)] != 0 || got[headAt(p.g, 5)] != 0 || got[p.mapAt(5)] != 0 {
		t.Error(got[:144])
	}
	written(p.words, 1, api.Entry{At: rootAt(0), X: 0})
	got = isMended(t, p)
	if !slices.Equal(got[headAt(p.g, 0):spanAt(p.g, 0)], make([]uint64, 48)) || got[c] != p.words[c] {
		t.Error(got[:144])
	}
	written(none, 1, api.Entry{At: rootAt(1), X: uint64(w)}, api.Entry{At: w + 1, X: 0}, api.Entry{At: w + 2, X: 0})
	got, e := mend.Mended(none)
	if e != api.OK || got[w] != firstWord(2, 15, 15) || got[a] != none[a] || got[headAt(p.g, 0)] != 0 || got[headAt(p.g, 5)] != headWord(small(3)) || got[p.mapAt(5)] != 2 || got[laneAt(1)] != 0 {
		t.Error(got, e)
	}
}

// No lane's seal stays, whether it counts or not; its other words do.
func TestP14_1NoCount(t *testing.T) {
	p := scene()
	p.words = with(p.words, sceneFixes()...)
	for _, lane := range []int{0, 1} {
		for _, x := range []uint64{1, full, seal(), seal(0), seal(0, 0) ^ 1, seal(8, 0, 9, 0), seal(make([]uint64, 34)...)} {
			turned := with(p.words, api.Entry{At: laneAt(lane), X: x}, api.Entry{At: laneAt(lane) + 1, X: 7}, api.Entry{At: entryAt(lane, 3), X: 8})
			becomes(t, x, turned, with(turned, api.Entry{At: laneAt(lane), X: 0}))
			needs(t, x, turned)
			isSound(t, x, turned, false)
		}
	}
}

// named are the words that mending may turn: heads' first and second ones, and first words of what is reached, and lanes' seals.
func named(g api.Geometry, live []api.Live) map[int]int {
	m := map[int]int{}
	for span := range g.Spans {
		m[headAt(g, span)], m[headAt(g, span)+1] = 1, 1
	}
	for _, l := range live {
		m[l.At] = 2
	}
	return m
}

// What is mended differs from the replayed image in no other words than the document names, and of first words in Refs alone.
func TestP14_1NoOtherWords(t *testing.T) {
	for i, p := range crowds() {
		for _, p := range []picture{p, spoiled(i, p), logged(i, p, 1000)} {
			r, e := image.Replayed(p.words)
			got, f := mend.Mended(p.words)
			if e != api.OK || f != api.OK {
				continue
			}
			live, _ := mark.Reach(p.g, r)
			for _, d := range differing(r, got) {
				switch named(p.g, live)[d.At] {
				case 0:
					t.Fatalf("%v: %d turned", p.heads, d.At)
				case 2:
					if d.X/65536 != r[d.At]/65536 {
						t.Fatalf("%v: more than Refs at %d: %x", p.heads, d.At, d.X)
					}
				}
			}
		}
	}
}

// Data, and unused words, that look like pointers, right ones and wrong ones, are left, and lead nowhere.
func TestP14_1Data(t *testing.T) {
	p := scene()
	p.words = with(p.words, sceneFixes()...)
	live, _ := reached(p.g, p.words)
	looks := []uint64{0, uint64(p.at(0, 3)), uint64(p.at(0, 0)), uint64(p.at(0, 1)), uint64(p.at(0, 0) + 1), 1, full, uint64(p.at(1, 0))}
	for _, l := range live {
		for a := l.At + 1 + l.Object.Slots; a < l.At+l.Spot.Words; a++ {
			for _, x := range looks {
				turned := with(p.words, api.Entry{At: a, X: x})
				becomes(t, a, turned, turned)
			}
		}
	}
}

// otherCounts are an image's words, but too few of them, too many, and none.
func otherCounts(words []uint64) [][]uint64 {
	n := len(words)
	more := append(slices.Clone(words), make([]uint64, 200)...)
	l := [][]uint64{nil, {}, words[:1], words[:7], words[:8], words[:n-1], words[:n-8], words[:n-64], words[:n-72], words[1:], words[8:]}
	return append(l, more[:n+1], more[:n+8], more[:n+40], more[:n+64], more[:n+72], more, slices.Concat(words, words), make([]uint64, n), make([]uint64, 65536+n))
}

// few are pictures for wrong inputs: of one span, of some, of as many as there may be.
func few() []picture {
	return []picture{drawn(1, 1, of(free)), scene(), crowds()[0], drawn(4, 8, slices.Repeat(of(free), 16))}
}

// No words, a word too few, a word too many, and others.
func TestP14_1OtherCounts(t *testing.T) {
	for _, p := range few() {
		for _, words := range otherCounts(p.words) {
			corrupt(t, len(words), words)
		}
	}
}

// A superblock that doesn't fit: each bit of its words turned; each word another one, with a seal that fits; another geometry's.
func TestP14_1NoSuperblock(t *testing.T) {
	for _, p := range few() {
		for a := range 8 {
			for bit := range 64 {
				corrupt(t, a, with(p.words, api.Entry{At: a, X: p.words[a] ^ 1<<bit}))
			}
		}
		for a := range 7 {
			for _, x := range []uint64{0, p.words[a] + 1, p.words[a] - 1, full, 1 << 48} {
				if x == p.words[a] {
					continue
				}
				turned := with(p.words, api.Entry{At: a, X: x})
				turned[7] = seal(turned[:7]...)
				corrupt(t, a, turned)
			}
		}
		for _, g := range everyGeometry() {
			if total(g) != len(p.words) {
				turned := slices.Clone(p.words)
				copy(turned, super(g))
				corrupt(t, g, turned)
			}
		}
	}
}

// Logs that write where none may: at each such address, as the only entry, the first of several, and the last of as many as there may be, in the first lane and in the last. As it stands the image has its fixes still.
func TestP14_1NoReplay(t *testing.T) {
	p := scene()
	root := api.Entry{At: rootAt(0), X: p.words[rootAt(0)]}
	for a := range total(p.g) + 20 {
		if writable(p.g, a) {
			continue
		}
		x := uint64(0)
		if a < len(p.words) {
			x = p.words[a]
		}
		e := api.Entry{At: a, X: x}
		for i, log := range [][]api.Entry{{e}, {e, root, root}, append(slices.Repeat([]api.Entry{root}, 15), e)} {
			words := slices.Clone(p.words)
			written(words, 0, root)
			written(words, i%2, log...)
			isRefused(t, a, words)
			needs(t, a, words, sceneFixes()...)
		}
	}
}

// One word that is no head's, at the first span, in the middle, at the last: as it stands, only after a log is replayed, and only before.
func TestP14_1NoHeads(t *testing.T) {
	for _, p := range few() {
		for _, span := range []int{0, p.g.Spans / 2, p.g.Spans - 1} {
			for _, x := range noHeadWords() {
				at := headAt(p.g, span)
				corrupt(t, x, with(p.words, api.Entry{At: at, X: x}))
				after := slices.Clone(p.words)
				written(after, p.g.Lanes-1, api.Entry{At: at, X: x})
				isRefused(t, x, after)
				if !stands(t, x, after) {
					t.Fatalf("%d: %x: no fixes", span, x)
				}
				before := with(p.words, api.Entry{At: at, X: x})
				written(before, 0, api.Entry{At: at, X: p.words[at]})
				hasNoFixes(t, x, before)
				if !mends(t, x, before) {
					t.Fatalf("%d: %x: not mended", span, x)
				}
			}
		}
	}
}

// A wrong is something that a pointer may not be, with what must be done to a picture that it is so.
type wrong struct {
	what string
	x    func(p picture) int
}

// wrongs are such, for pictures whose spans are tower's.
func wrongs() []wrong {
	to := func(span, index, off int) func(p picture) int {
		return func(p picture) int { return p.at(span, index) + off }
	}
	lay := func(span, index int, first uint64) func(p picture) int {
		return func(p picture) int {
			p.lay(span, index, 1, 0)
			p.words[p.at(span, index)] = first
			return p.at(span, index)
		}
	}
	unset := func(span, index, words int) func(p picture) int {
		return func(p picture) int {
			p.lay(span, index, words, 0)
			p.words[p.mapAt(span)] &^= 1 << index
			return p.at(span, index)
		}
	}
	return []wrong{
		{"inside a block", to(0, 2, 1)}, {"inside the first block", to(0, 0, 3)}, {"inside the last block", to(5, 3, 15)},
		{"inside a large block", to(2, 0, 1)}, {"a large block's other span", to(2, 0, 64)}, {"a free span", to(4, 0, 0)},
		{"a span that isn't whole", to(6, 0, 0)}, {"other spans alone", to(7, 0, 0)}, {"the superblock", func(picture) int { return 1 }},
		{"a root", func(picture) int { return rootAt(0) }}, {"a lane", func(picture) int { return 16 }},
		{"a head", func(p picture) int { return headAt(p.g, 0) }}, {"behind the region", func(p picture) int { return total(p.g) }},
		{"the greatest number", func(picture) int { return -1 }}, {"the least number", func(picture) int { return math.MinInt }},
		{"right by its lowest bits", func(p picture) int { return p.lay(0, 3, 3, 0) + 1<<32 }},
		{"no bit", unset(0, 3, 3)}, {"no bit at the first", unset(0, 0, 3)}, {"no bit at the last", unset(5, 3, 8)}, {"no bit of a large one", unset(2, 0, 64)},
		{"first word 0", lay(0, 3, 0)}, {"first word 0 of a large one", lay(2, 0, 0)}, {"no words", lay(0, 3, firstWord(5, 0, 0))},
		{"more slots than words", lay(0, 3, firstWord(1, 3, 2))}, {"a bit above", lay(0, 3, firstWord(1, 0, 2)+1<<32)}, {"all bits", lay(2, 0, full)},
		{"too few words", lay(0, 3, firstWord(1, 0, 1))}, {"too many words", lay(0, 3, firstWord(1, 0, 4))},
		{"small in a large one", lay(2, 0, firstWord(1, 0, 15))}, {"fewer spans", lay(2, 0, firstWord(1, 0, 63))}, {"more spans", lay(2, 0, firstWord(1, 0, 128))},
	}
}

// tower is a picture in which root 1 leads to a chain of so many objects, and the last one's slot is 0; where that is. In span 0 blocks 0 to 3, and spans 2, 3 and 5, are left for something else.
func tower(depth int) (picture, int) {
	// Behind the last large block's first span stands another one's: neither is whole.
	p := drawn(1, 3, join(of(small(1), small(0)), block(2), of(free, small(3), large(2), more(2))))
	place := rootAt(1)
	for i := range depth {
		if i%2 == 0 {
			p.words[place] = uint64(p.lay(1, 31-i, 1, 1))
			place = int(p.words[place]) + 1
		} else {
			p.words[place] = uint64(p.lay(0, 15-i/2, 3, 2))
			place = int(p.words[place]) + 2
		}
	}
	return p, place
}

// Each such thing in a root, and in a slot at each depth: as it stands; only after a log is replayed; only before; and in garbage, where it doesn't matter.
func TestP14_1Wrong(t *testing.T) {
	for depth := range 8 {
		for _, w := range wrongs() {
			p, place := tower(depth)
			x := uint64(w.x(p))
			if !agrees(t, w.what, p.words) {
				t.Fatalf("%d, %s: not mended without", depth, w.what)
			}
			after := slices.Clone(p.words)
			written(after, 0, api.Entry{At: rootAt(0), X: 0}, api.Entry{At: place, X: x})
			isRefused(t, w.what, after)
			if !stands(t, w.what, after) {
				t.Fatalf("%d, %s: no fixes", depth, w.what)
			}
			p.words[place] = x
			corrupt(t, w.what, p.words)
			before := slices.Clone(p.words)
			written(before, 0, api.Entry{At: place, X: 1}, api.Entry{At: place, X: 0})
			hasNoFixes(t, w.what, before)
			if !mends(t, w.what, before) {
				t.Fatalf("%d, %s: not mended by its log", depth, w.what)
			}
			if p.words[rootAt(1)] = 0; depth > 0 && !agrees(t, w.what, p.words) {
				t.Fatalf("%d, %s: garbage matters", depth, w.what)
			}
		}
	}
}

// The words that make a pointer right, written by a log alone: the head, the bit, the first word; the same ones taken away by one.
func TestP14_1RightByLog(t *testing.T) {
	p := drawn(1, 1, of(free, small(2)))
	p.roots(p.lay(1, 6, 7, 7))
	for _, e := range []api.Entry{{At: headAt(p.g, 1), X: 0}, {At: p.mapAt(1), X: 1 << 5}, {At: p.at(1, 6), X: 0}, {At: rootAt(0), X: 3}, {At: p.at(1, 6) + 7, X: 3}} {
		after := slices.Clone(p.words)
		written(after, 0, e)
		isRefused(t, e, after)
		needs(t, e, after, api.Entry{At: p.at(1, 6), X: firstWord(1, 7, 7)})
		before := with(p.words, e)
		written(before, 0, api.Entry{At: e.At, X: p.words[e.At]})
		hasNoFixes(t, e, before)
		want := slices.Clone(before)
		want[laneAt(0)], want[e.At], want[p.at(1, 6)] = 0, p.words[e.At], firstWord(1, 7, 7)
		becomes(t, e, before, want)
	}
}

func TestP14_2Scene(t *testing.T) {
	needs(t, "scene", scene().words, sceneFixes()...)
}

// Fixes rise by their addresses, each address once, and have the mended image's words, where they differ.
func TestP14_2Rising(t *testing.T) {
	for i, p := range crowds() {
		for _, p := range []picture{p, spoiled(i, p)} {
			for lane := range p.g.Lanes {
				p.words[laneAt(lane)] = 0
			}
			mended := isMended(t, p)
			fixes, e := mend.Fixes(p.words)
			if e != api.OK {
				t.Fatal(p.heads, e)
			}
			last := -1
			for _, fix := range fixes {
				if fix.At <= last || mended[fix.At] != fix.X || p.words[fix.At] == fix.X {
					t.Fatalf("%v: %v", p.heads, fixes)
				}
				last = fix.At
			}
			if !slices.Equal(with(p.words, fixes...), mended) {
				t.Fatalf("%v: not all fixes: %v", p.heads, fixes)
			}
		}
	}
}

// Where an image differs in one word from what it is mended to, that is its fix; in each kind of word.
func TestP14_2OneWord(t *testing.T) {
	p := scene()
	p.words = with(p.words, sceneFixes()...)
	needs(t, "none", p.words)
	turns := []api.Entry{{At: p.mapAt(1), X: 1}, {At: p.mapAt(3), X: 1 << 63}}
	for _, h := range every()[1:] {
		turns = append(turns, api.Entry{At: headAt(p.g, 1), X: headWord(h)})
	}
	for _, span := range []int{0, 2, 4, 5} {
		turns = append(turns, api.Entry{At: p.mapAt(span), X: full}, api.Entry{At: p.mapAt(span), X: p.words[p.mapAt(span)] + 4})
	}
	for _, fix := range sceneFixes()[3:] {
		turns = append(turns, api.Entry{At: fix.At, X: fix.X + 1}, api.Entry{At: fix.At, X: fix.X - 1}, api.Entry{At: fix.At, X: fix.X / 65536 * 65536}, api.Entry{At: fix.At, X: fix.X | 65535})
	}
	for _, e := range turns {
		turned := with(p.words, e)
		needs(t, e, turned, api.Entry{At: e.At, X: p.words[e.At]})
		becomes(t, e, turned, p.words)
		isSound(t, e, turned, false)
	}
}

// Each pair of fixes left undone, in pairs of kinds of words.
func TestP14_2TwoWords(t *testing.T) {
	p := scene()
	fixes := sceneFixes()
	for i := range fixes {
		for k := range i {
			rest := slices.Delete(slices.Clone(fixes), i, i+1)
			rest = slices.Delete(rest, k, k+1)
			needs(t, [2]int{k, i}, with(p.words, rest...), fixes[k], fixes[i])
		}
	}
}

// Of an image with lanes that count, fixes are of it as it stands: no word that a log tells is told, and no seal.
func TestP14_2AsItStands(t *testing.T) {
	logs := [][]api.Entry{
		{{At: rootAt(0), X: 0}, {At: rootAt(2), X: 0}}, {{At: rootAt(1), X: 3}}, {{At: 97, X: full}, {At: 96, X: 0}}, {{At: 144, X: firstWord(9, 0, 2)}}, {{At: 5, X: 9}}, {{At: 16383, X: 9}},
		{{At: 145, X: 146}}, {{At: 104, X: 1}},
	}
	for _, log := range logs {
		for lane := range 2 {
			p := scene()
			written(p.words, lane, log...)
			needs(t, log, p.words, sceneFixes()...)
			p.words = with(p.words, sceneFixes()...)
			needs(t, log, p.words)
			isSound(t, log, p.words, false)
		}
	}
}

// Crowded pictures with logs: their fixes are those without these logs.
func TestP14_2Logs(t *testing.T) {
	for i, p := range crowds() {
		want, _ := mend.Fixes(p.words)
		for k := range 4 {
			needs(t, p.heads, logged(i*10+k, p, 10).words, want...)
		}
	}
}

// An image is sound, if it is mended; not, if one of the words differs that are mended; still, if another one does.
func TestP14_3EachWord(t *testing.T) {
	p := scene()
	p.words = with(p.words, sceneFixes()...)
	live, _ := reached(p.g, p.words)
	matters := named(p.g, live)
	for lane := range p.g.Lanes {
		matters[laneAt(lane)] = 3
	}
	for a := range 8 + p.g.Roots {
		matters[a] = 4
	}
	for _, l := range live {
		for slot := range l.Object.Slots {
			matters[l.At+1+slot] = 4
		}
	}
	isSound(t, "scene", p.words, true)
	for a := range p.words {
		for _, x := range []uint64{p.words[a] ^ 1, p.words[a] ^ 1<<63, ^p.words[a], p.words[a] + 4096} {
			isSound(t, a, with(p.words, api.Entry{At: a, X: x}), matters[a] == 0)
		}
	}
}

// A lane's seal that isn't 0 would be 0 in what is mended, whether its log counts, tells something else than what is there, or can't be replayed.
func TestP14_3Lanes(t *testing.T) {
	p := scene()
	p.words = with(p.words, sceneFixes()...)
	for lane := range 2 {
		for _, log := range [][]api.Entry{{{At: rootAt(0), X: p.words[rootAt(0)]}}, {{At: rootAt(1), X: 0}}, {{At: rootAt(0), X: 0}}, {{At: p.mapAt(0), X: 5}}, {{At: 3, X: 5}}} {
			words := slices.Clone(p.words)
			written(words, lane, log...)
			isSound(t, log, words, false)
			words[laneAt(lane)]++
			isSound(t, log, words, false)
			// Without its seal it is a log no more, and all its words may be anything.
			words[laneAt(lane)] = 0
			isSound(t, log, words, true)
		}
	}
}

// What isn't an image isn't sound.
func TestP14_3NoImage(t *testing.T) {
	for _, p := range few() {
		p.words = isMended(t, p)
		isSound(t, p.heads, p.words, true)
		for _, words := range otherCounts(p.words) {
			isSound(t, len(words), words, false)
		}
		for a := range 8 {
			isSound(t, a, with(p.words, api.Entry{At: a, X: p.words[a] ^ 2}), false)
		}
		for _, x := range noHeadWords() {
			isSound(t, x, with(p.words, api.Entry{At: headAt(p.g, p.g.Spans-1), X: x}), false)
		}
		for _, x := range []uint64{1, uint64(spanAt(p.g, 0) + 1), uint64(total(p.g)), full} {
			isSound(t, x, with(p.words, api.Entry{At: rootAt(0), X: x}), false)
		}
	}
}

// everything are pictures of all kinds that can be mended, with logs and without.
func everything() []picture {
	l := []picture{scene()}
	for i, p := range crowds() {
		l = append(l, p, spoiled(i, p))
		for k := range 3 {
			q := logged(i*100+k, p, 1000)
			if _, e := mend.Mended(q.words); e == api.OK {
				l = append(l, q)
			}
		}
	}
	return l
}

// What is mended is sound, has no garbage, reaches what the replayed image reaches, and mended again it is itself.
func TestP14_4Mended(t *testing.T) {
	for _, p := range everything() {
		words := isMended(t, p)
		isSound(t, p.heads, words, true)
		needs(t, p.heads, words)
		becomes(t, p.heads, words, words)
		if n := mark.Garbage(p.g, words); n != 0 {
			t.Fatalf("%v: garbage %d", p.heads, n)
		}
		r, _ := image.Replayed(p.words)
		was, _ := mark.Reach(p.g, r)
		is, e := mark.Reach(p.g, words)
		if e != api.OK || !slices.Equal(is, was) {
			t.Fatalf("%v: reaches %v, not %v", p.heads, is, was)
		}
		for _, l := range is {
			if words[l.At] != firstWord(l.Object.Refs, l.Object.Slots, l.Object.Words) {
				t.Fatalf("%v: %v has %x", p.heads, l, words[l.At])
			}
		}
		if h, e := image.Heads(p.g, words); e != api.OK || !slices.Equal(h, mark.Keeps(p.g, h, is)) || !slices.Equal(image.Maps(p.g, words), mark.Maps(p.g, is)) {
			t.Fatalf("%v: heads %v, maps %x", p.heads, h, image.Maps(p.g, words))
		}
	}
}

// All parts of the scene's fixes, of a spoiled image's, and of one in which a large block goes: whichever are done, it is mended to the same, and its fixes are those that are left. (Each order goes by such parts.)
func TestP14_4EachPart(t *testing.T) {
	gone := drawn(1, 2, join(of(small(2)), block(3), of(small(0), more(1))))
	gone.lay(1, 0, 130, 2, gone.at(0, 1))
	gone.words[gone.mapAt(3)] = full
	gone.roots(0, gone.lay(0, 7, 4, 4, gone.lay(0, 1, 6, 0)))
	for _, p := range []picture{scene(), gone, crowded(5, of(small(3)), 0), spoiled(3, crowded(7, join(block(2), of(small(3))), 0))} {
		words, _ := replayed(p.words)
		want, fixes := isMended(t, p), differing(words, isMended(t, p))
		if len(fixes) < 3 || len(fixes) > 10 {
			t.Fatalf("%v: %d fixes", p.heads, len(fixes))
		}
		for which := range 1 << len(fixes) {
			var done, left []api.Entry
			for i, fix := range fixes {
				if which>>i&1 == 1 {
					done = append(done, fix)
				} else {
					left = append(left, fix)
				}
			}
			part := with(words, done...)
			becomes(t, which, part, want)
			needs(t, which, part, left...)
			isSound(t, which, part, len(left) == 0)
		}
	}
}

// Fixes of crowded images, one behind the other in mixed orders: at each of them it is mended to the same, and less is to be fixed.
func TestP14_4AnyOrder(t *testing.T) {
	for i, p := range everything() {
		d := dice(i)
		words, _ := replayed(p.words)
		want := isMended(t, p)
		fixes, e := mend.Fixes(words)
		if e != api.OK {
			t.Fatal(p.heads, e)
		}
		for k, n := range d.order(len(fixes)) {
			words[fixes[n].At] = fixes[n].X
			if k%7 == i%7 || k+3 > len(fixes) {
				becomes(t, p.heads, words, want)
				if left, e := mend.Fixes(words); e != api.OK || len(left) != len(fixes)-k-1 {
					t.Fatalf("%v: %d fixes of %d left behind %d, %d", p.heads, len(left), len(fixes), k+1, e)
				}
			}
		}
		if !slices.Equal(words, want) {
			t.Fatalf("%v: with all fixes it isn't the mended one", p.heads)
		}
	}
}

// asked is all that is told of an image, as a text.
func asked(words []uint64) string {
	m, e := mend.Mended(words)
	l, f := mend.Fixes(words)
	return fmt.Sprint(m, e, l, f, mend.Sound(words))
}

// odd are pictures of which something isn't told.
func odd() []picture {
	head, pointer, log := scene(), scene(), scene()
	head.words[headAt(head.g, 1)] = 5
	pointer.words[pointer.at(5, 1)+15] = 3
	written(log.words, 1, api.Entry{At: 3, X: 3})
	return []picture{head, pointer, log}
}

// What is handed in stays as it is, its spare room too, of images that can be mended, and of others.
func TestP14_4Unchanged(t *testing.T) {
	for _, p := range append(everything(), odd()...) {
		words := append(slices.Clone(p.words), 1, 2, 3)
		asked(words[:len(p.words)])
		if !slices.Equal(words, append(slices.Clone(p.words), 1, 2, 3)) {
			t.Fatalf("%v: turned", p.heads)
		}
	}
}

// What a caller does with an answer turns neither what was handed in nor another answer, also where nothing differs; and what is done to what was handed in turns no answer.
func TestP14_4Unshared(t *testing.T) {
	fresh := drawn(1, 1, of(free))
	mended := scene()
	mended.words = with(mended.words, sceneFixes()...)
	for _, p := range append(everything(), fresh, mended) {
		was, want := slices.Clone(p.words), asked(p.words)
		words, _ := mend.Mended(p.words)
		fixes, _ := mend.Fixes(p.words)
		mine, myFixes := slices.Clone(words), slices.Clone(fixes)
		other, _ := mend.Mended(p.words)
		otherFixes, _ := mend.Fixes(p.words)
		for i := range other {
			other[i] = ^other[i]
		}
		for i := range otherFixes {
			otherFixes[i] = api.Entry{At: -1}
		}
		_, _ = append(other, 1, 2), append(otherFixes, api.Entry{At: -2})
		if !slices.Equal(p.words, was) || asked(p.words) != want {
			t.Fatalf("%v: turned by what was done with an answer", p.heads)
		}
		clear(p.words)
		if !slices.Equal(words, mine) || !slices.Equal(fixes, myFixes) {
			t.Fatalf("%v: an answer turned with another one, or with what was handed in", p.heads)
		}
	}
}

// What was asked ahead of it turns no answer.
func TestP14_4Same(t *testing.T) {
	p := scene()
	want := asked(p.words)
	for _, other := range append(crowds(), odd()...) {
		asked(other.words)
		if got := asked(p.words); got != want {
			t.Fatalf("%v: %s, not %s", other.heads, got, want)
		}
	}
}
