package image_test

import (
	"hash/crc32"
	"math"
	"slices"
	"testing"

	"trencher/api"
	"trencher/image"
)

// full is the word whose bits are all 1.
const full = math.MaxUint64

// least and most are the geometries at the edges; middle is one between them, with other numbers of each kind.
var (
	least  = api.Geometry{Spans: 1, Lanes: 1, Roots: 1}
	most   = api.Geometry{Spans: 16, Lanes: 4, Roots: 8}
	middle = api.Geometry{Spans: 3, Lanes: 2, Roots: 5}
)

// few are the geometries that are tried where all would take long: those at the edges, those with one number at the other edge, and some between.
func few() []api.Geometry {
	return []api.Geometry{least, middle, most, {Spans: 16, Lanes: 1, Roots: 1}, {Spans: 1, Lanes: 4, Roots: 1}, {Spans: 1, Lanes: 1, Roots: 8}, {Spans: 1, Lanes: 4, Roots: 8}, {Spans: 16, Lanes: 1, Roots: 8}, {Spans: 16, Lanes: 4, Roots: 1}, {Spans: 7, Lanes: 3, Roots: 7}}
}

// everyGeometry are all that may be.
func everyGeometry() []api.Geometry {
	var l []api.Geometry
	for spans := 1; spans <= 16; spans++ {
		for lanes := 1; lanes <= 4; lanes++ {
			for roots := 1; roots <= 8; roots++ {
				l = append(l, api.Geometry{Spans: spans, Lanes: lanes, Roots: roots})
			}
		}
	}
	return l
}

// wrongCounts are numbers of which there are none of anything that has so many at most, those at the edges first, and some of which the lowest bits alone would be right.
func wrongCounts(most int) []int {
	l := []int{0, most + 1, -1, most + 2, -2, most * 2, -most, 1 - most, 127, 128, 255, 256, math.MaxInt32, math.MinInt32, math.MaxInt, math.MaxInt - 1, math.MinInt, math.MinInt + 1}
	for _, bit := range []int{5, 6, 8, 15, 16, 31, 32, 48, 58, 60, 61, 62} {
		l = append(l, 1<<bit, 1<<bit+1, 1<<bit+most, 1<<bit-1, -1<<bit, 1-1<<bit, most-1<<bit)
	}
	return l
}

// noGeometries are some that may not be: with one number that is wrong, with two, and with three.
func noGeometries() []api.Geometry {
	l := []api.Geometry{{}, {Spans: -1, Lanes: -1, Roots: -1}, {Spans: 17, Lanes: 5, Roots: 9}, {Spans: 16, Lanes: 8, Roots: 4}, {Spans: 8, Lanes: 16, Roots: 4}, {Spans: 4, Lanes: 4, Roots: 16}}
	for _, g := range []api.Geometry{least, middle, most} {
		for _, n := range wrongCounts(16) {
			l = append(l, api.Geometry{Spans: n, Lanes: g.Lanes, Roots: g.Roots})
		}
		for _, n := range wrongCounts(4) {
			l = append(l, api.Geometry{Spans: g.Spans, Lanes: n, Roots: g.Roots})
		}
		for _, n := range wrongCounts(8) {
			l = append(l, api.Geometry{Spans: g.Spans, Lanes: g.Lanes, Roots: n}, api.Geometry{Spans: n * 3, Lanes: n * 3, Roots: n * 3})
		}
	}
	return l
}

// Where the parts of a region begin, and how many words it has, by the document's numbers.
func rootAt(i int) int                    { return 8 + i }
func laneAt(lane int) int                 { return 16 + 40*lane }
func entryAt(lane, i int) int             { return 24 + 40*lane + 2*i }
func headAt(g api.Geometry, span int) int { return 16 + 40*g.Lanes + 8*span }
func spanAt(g api.Geometry, span int) int { return 16 + 40*g.Lanes + 8*g.Spans + 64*span }
func total(g api.Geometry) int            { return 16 + 40*g.Lanes + 72*g.Spans }

// mixed are n words that look as if they were by chance, the same each time.
func mixed(n int, seed uint64) []uint64 {
	l := make([]uint64, n)
	x := 0x9e3779b97f4a7c15 + seed*2
	for i := range l {
		x = x*6364136223846793005 + 1442695040888963407
		l[i] = x ^ x>>29
	}
	return l
}

// crc is the sum of words, by the library.
func crc(words []uint64) uint64 {
	var b []byte
	for _, w := range words {
		for range 8 {
			b = append(b, byte(w%256))
			w /= 256
		}
	}
	return uint64(crc32.ChecksumIEEE(b))
}

// seal is the seal of words.
func seal(words []uint64) uint64 {
	return 1<<63 + uint64(len(words))<<32 + crc(words)
}

// super is a geometry's superblock, word by word as the document has it.
func super(g api.Geometry) []uint64 {
	l := []uint64{0x7472656e63686572, 3, uint64(g.Spans) + uint64(g.Lanes)*65536 + uint64(g.Roots)*65536*65536, uint64(total(g)), 0, 0, 0}
	return append(l, seal(l))
}

// headWord is the word of a head that may be, as the document has it.
func headWord(h api.Head) uint64 {
	if h == (api.Head{}) {
		return 0
	}
	x := uint64(h.Kind) + uint64(h.Class)*4 + uint64(h.Many)*32
	return x + crc([]uint64{x})<<32
}

// heads are all that may be.
func heads() []api.Head {
	return []api.Head{
		{},
		{Kind: 1}, {Kind: 1, Class: 1}, {Kind: 1, Class: 2}, {Kind: 1, Class: 3},
		{Kind: 2, Class: 4, Many: 1}, {Kind: 2, Class: 4, Many: 2}, {Kind: 2, Class: 4, Many: 3}, {Kind: 2, Class: 4, Many: 4},
		{Kind: 3, Class: 4, Many: 1}, {Kind: 3, Class: 4, Many: 2}, {Kind: 3, Class: 4, Many: 3},
	}
}

// noHeadWords are words that are no head's: the edges, some whose sum fits fields that may not be, and heads' words with a bit turned.
func noHeadWords() []uint64 {
	l := []uint64{1, 2, 3, 4, full, 1 << 31, 1 << 32, 1 << 63, 5}
	for _, x := range []uint64{0, 4, 32, 1 + 4<<2, 1 + 1<<5, 2 + 4<<2, 2 + 4<<2 + 5<<5, 2 + 3<<2 + 1<<5, 3 + 4<<2, 3 + 4<<2 + 4<<5, 1 + 1<<8, 1 + 1<<31} {
		l = append(l, x+crc([]uint64{x})<<32)
	}
	for _, h := range heads() {
		for _, bit := range []int{0, 1, 2, 5, 7, 8, 20, 31, 32, 50, 63} {
			l = append(l, headWord(h)^1<<bit)
		}
	}
	return l
}

// logWords are a log's words, as the document has them.
func logWords(l []api.Entry) []uint64 {
	words := make([]uint64, 2*len(l))
	for i, e := range l {
		words[2*i] = uint64(e.At) + uint64(i)*4294967296
		words[2*i+1] = e.X
	}
	return words
}

// counts is the log of a lane's seal and its entries' words, found by trying each length; none, if the lane doesn't count.
func counts(x uint64, words []uint64) []api.Entry {
	for n := 1; n <= 16; n++ {
		var l []api.Entry
		for i := range n {
			l = append(l, api.Entry{At: int(uint32(words[2*i])), X: words[2*i+1]})
		}
		far := slices.ContainsFunc(l, func(e api.Entry) bool { return e.At > 16383 })
		if !far && slices.Equal(logWords(l), words[:2*n]) && x == seal(words[:2*n]) {
			return l
		}
	}
	return nil
}

// plainLanes are the logs of an image's lanes.
func plainLanes(g api.Geometry, words []uint64) [][]api.Entry {
	var l [][]api.Entry
	for lane := range g.Lanes {
		l = append(l, counts(words[laneAt(lane)], words[entryAt(lane, 0):laneAt(lane)+40]))
	}
	return l
}

// writable are all addresses that a log may write, one by one.
func writable(g api.Geometry) []int {
	var l []int
	for i := range g.Roots {
		l = append(l, rootAt(i))
	}
	for span := range g.Spans {
		l = append(l, headAt(g, span), headAt(g, span)+1)
	}
	for a := spanAt(g, 0); a < total(g); a++ {
		l = append(l, a)
	}
	return l
}

// unwritable are the addresses from 0 on that no log may write: all others of the region, and some behind it.
func unwritable(g api.Geometry) []int {
	may := writable(g)
	var l []int
	for a := range total(g) {
		if _, ok := slices.BinarySearch(may, a); !ok {
			l = append(l, a)
		}
	}
	return append(l, total(g), total(g)+1, total(g)+8, total(g)+64, 8192, 16375, 16382, 16383)
}

// plainReplayed is an image replayed, of one whose superblock fits; false, if a log that counts writes where none may.
func plainReplayed(g api.Geometry, words []uint64) ([]uint64, bool) {
	may := writable(g)
	all := slices.Concat(plainLanes(g, words)...)
	replayed := slices.Clone(words)
	for _, e := range all {
		if !slices.Contains(may, e.At) {
			return nil, false
		}
		replayed[e.At] = e.X
	}
	for lane := range g.Lanes {
		replayed[laneAt(lane)] = 0
	}
	return replayed, true
}

// fresh is a fresh image, word by word.
func fresh(g api.Geometry) []uint64 {
	return append(super(g), make([]uint64, total(g)-8)...)
}

// busy is an image in which each word that can be anything is something, heads are heads' words, and no lane counts.
func busy(g api.Geometry) []uint64 {
	words := append(super(g), mixed(total(g)-8, uint64(g.Spans*100+g.Lanes*10+g.Roots))...)
	for span := range g.Spans {
		words[headAt(g, span)] = headWord(heads()[(span*5+g.Lanes)%12])
	}
	for lane := range g.Lanes {
		words[laneAt(lane)] = 0
	}
	return words
}

// written lays a log into a lane of an image, in place, with its seal.
func written(words []uint64, lane int, l []api.Entry) {
	copy(words[entryAt(lane, 0):laneAt(lane)+40], logWords(l))
	words[laneAt(lane)] = seal(logWords(l))
}

// spread are n entries whose addresses a log may write, different ones as long as there are some, from one of them on; their values are mixed.
func spread(g api.Geometry, n, from, step int) []api.Entry {
	may := writable(g)
	var l []api.Entry
	for i, x := range mixed(n, uint64(from)) {
		l = append(l, api.Entry{At: may[(from+i*step)%len(may)], X: x})
	}
	return l
}

// edges are the addresses that a log may write beside which there are others that it may not.
func edges(g api.Geometry) []int {
	l := []int{rootAt(0), rootAt(g.Roots - 1)}
	for _, span := range []int{0, g.Spans / 2, g.Spans - 1} {
		l = append(l, headAt(g, span), headAt(g, span)+1)
	}
	return append(l, spanAt(g, 0), spanAt(g, g.Spans-1), spanAt(g, 0)+63, total(g)-1)
}

// logs are some that may be replayed: of one entry, of some, of as many as there may be, for all that may be written, and of several entries of one address.
func logs(g api.Geometry) [][]api.Entry {
	var l [][]api.Entry
	for _, n := range []int{1, 2, 3, 8, 15, 16} {
		l = append(l, spread(g, n, 0, 1), spread(g, n, 3, 29), spread(g, n, len(writable(g))-n, 1), spread(g, n, 5, 0))
	}
	for i, at := range edges(g) {
		l = append(l, []api.Entry{{At: at, X: uint64(i)}}, []api.Entry{{At: at, X: 7}, {At: rootAt(0), X: full}, {At: at, X: uint64(i)}})
	}
	root, first, bits, heap := rootAt(g.Roots-1), headAt(g, 0), headAt(g, g.Spans-1)+1, spanAt(g, 0)+3
	return append(l,
		[]api.Entry{{At: root, X: 1}, {At: root, X: 2}, {At: heap, X: 3}, {At: root, X: 4}, {At: heap, X: 5}},
		[]api.Entry{{At: first, X: headWord(heads()[3])}, {At: bits, X: 5}, {At: first, X: 0}, {At: bits, X: full}},
		[]api.Entry{{At: heap, X: 0}, {At: root, X: 0}},
	)
}

// images are some of a geometry's: fresh, busy, with logs in the first lane, in the last, in several, and of one address in several lanes' logs.
func images(g api.Geometry) [][]uint64 {
	l := [][]uint64{fresh(g), busy(g)}
	for i, log := range logs(g) {
		for _, lane := range []int{0, g.Lanes - 1} {
			words := [][]uint64{fresh(g), busy(g)}[(i+lane)%2]
			written(words, lane, log)
			l = append(l, words)
		}
		words := busy(g)
		for lane := range g.Lanes {
			written(words, lane, logs(g)[(i+lane*5)%len(logs(g))])
		}
		l = append(l, words)
	}
	for n := 1; n <= 16; n += 5 {
		words := fresh(g)
		for lane := range g.Lanes {
			written(words, lane, spread(g, n, lane, 1))
		}
		l = append(l, words)
	}
	return l
}

// lanesAre checks that the lanes of an image have the logs that they have.
func lanesAre(t *testing.T, g api.Geometry, words []uint64, want [][]api.Entry) {
	t.Helper()
	got := image.Lanes(g, words)
	if len(got) != g.Lanes || !slices.EqualFunc(got, want, slices.Equal) {
		t.Fatalf("%v: lanes %v, not %v", g, got, want)
	}
}

// replays checks that an image is replayed as the model does it.
func replays(t *testing.T, g api.Geometry, words []uint64) {
	t.Helper()
	want, ok := plainReplayed(g, words)
	if !ok {
		refused(t, g, words)
		return
	}
	got, e := image.Replayed(words)
	if e != api.OK || !slices.Equal(got, want) {
		t.Fatalf("%v: replayed otherwise, %d, at %d", g, e, differ(got, want))
	}
}

// refused checks that an image is corrupt, and that no word is told beside that.
func refused(t *testing.T, what any, words []uint64) {
	t.Helper()
	if got, e := image.Replayed(words); len(got) != 0 || e != api.ErrCorrupt {
		t.Fatalf("%v: replayed as %d words, %d", what, len(got), e)
	}
}

// differ is the first place at which words differ.
func differ(a, b []uint64) int {
	for i := range min(len(a), len(b)) {
		if a[i] != b[i] {
			return i
		}
	}
	return min(len(a), len(b))
}

// nothing checks that no heads, no maps and no lanes are told, and that this is corrupt.
func nothing(t *testing.T, g api.Geometry, words []uint64) {
	t.Helper()
	if l, e := image.Heads(g, words); len(l) != 0 || e != api.ErrCorrupt {
		t.Fatalf("%v of %d words: heads %v, %d", g, len(words), l, e)
	}
	if l := image.Maps(g, words); len(l) != 0 {
		t.Fatalf("%v of %d words: maps %v", g, len(words), l)
	}
	if l := image.Lanes(g, words); len(l) != 0 {
		t.Fatalf("%v of %d words: lanes %v", g, len(words), l)
	}
}

// otherCounts are an image's words, but too few of them, too many, and none.
func otherCounts(words []uint64) [][]uint64 {
	n := len(words)
	more := append(slices.Clone(words), mixed(200, 9)...)
	l := [][]uint64{nil, {}, words[:1], words[:7], words[:8], words[:n-1], words[:n-8], words[:n-64], words[:n-72], words[1:], words[8:]}
	return append(l, more[:n+1], more[:n+8], more[:n+40], more[:n+64], more[:n+72], more, slices.Concat(words, words), make([]uint64, 65536+n))
}

func TestP12_1Example(t *testing.T) {
	if got := image.Fresh(least); len(got) != 128 {
		t.Error(len(got))
	}
}

func TestP12_1EachGeometry(t *testing.T) {
	for _, g := range everyGeometry() {
		if got := image.Fresh(g); !slices.Equal(got, fresh(g)) {
			t.Fatalf("%v: %d words, other at %d", g, len(got), differ(got, fresh(g)))
		}
	}
}

func TestP12_1NoGeometry(t *testing.T) {
	for _, g := range noGeometries() {
		if got := image.Fresh(g); len(got) != 0 {
			t.Fatalf("%v: %d words", g, len(got))
		}
	}
}

// Each answer is new memory: what a caller does with it turns no other one.
func TestP12_1Unshared(t *testing.T) {
	for _, g := range few() {
		other := image.Fresh(g)
		got := image.Fresh(g)
		for i := range got {
			got[i] = ^got[i]
		}
		_ = append(got, 1, 2, 3)
		if !slices.Equal(other, fresh(g)) || !slices.Equal(image.Fresh(g), fresh(g)) {
			t.Fatalf("%v: turned by what was done with an answer", g)
		}
	}
}

func TestP12_2Geometry(t *testing.T) {
	for _, g := range everyGeometry() {
		for _, words := range [][]uint64{fresh(g), busy(g), append(super(g), slices.Repeat([]uint64{full}, total(g)-8)...)} {
			if got, e := image.Geometry(words); got != g || e != api.OK {
				t.Fatalf("%v: %v, %d", g, got, e)
			}
		}
	}
}

// noGeometry checks that words are no image of any geometry.
func noGeometry(t *testing.T, what any, words []uint64) {
	t.Helper()
	if got, e := image.Geometry(words); got != (api.Geometry{}) || e != api.ErrCorrupt {
		t.Fatalf("%v of %d words: %v, %d", what, len(words), got, e)
	}
}

// Too few words, too many, none; and a superblock with a bit turned.
func TestP12_2NoGeometry(t *testing.T) {
	for _, g := range few() {
		for _, words := range otherCounts(busy(g)) {
			noGeometry(t, g, words)
		}
		for i := range 8 {
			for bit := range 64 {
				words := busy(g)
				words[i] ^= 1 << bit
				noGeometry(t, g, words)
			}
		}
		noGeometry(t, g, make([]uint64, total(g)))
		noGeometry(t, g, mixed(total(g), 1))
	}
}

// The superblock of another geometry than there are words for.
func TestP12_2OtherGeometry(t *testing.T) {
	for _, g := range few() {
		for _, h := range everyGeometry() {
			words := busy(g)
			copy(words, super(h))
			if total(h) == total(g) {
				if got, e := image.Geometry(words); got != h || e != api.OK {
					t.Fatalf("%v as %v: %v, %d", g, h, got, e)
				}
				continue
			}
			noGeometry(t, h, words)
		}
	}
}

// headsAre checks that an image's heads are these.
func headsAre(t *testing.T, g api.Geometry, words []uint64, want []api.Head) {
	t.Helper()
	if got, e := image.Heads(g, words); e != api.OK || !slices.Equal(got, want) {
		t.Fatalf("%v: heads %v, %d, not %v", g, got, e, want)
	}
}

// Of all geometries that may be, the heads of a fresh image and of one whose other words are whatever.
func TestP12_2HeadsEachGeometry(t *testing.T) {
	for _, g := range everyGeometry() {
		headsAre(t, g, fresh(g), make([]api.Head, g.Spans))
		var want []api.Head
		for span := range g.Spans {
			want = append(want, heads()[(span*5+g.Lanes)%12])
		}
		headsAre(t, g, busy(g), want)
	}
}

// Each head at each span, whether or not the heads fit one behind the other.
func TestP12_2HeadsEachKind(t *testing.T) {
	for _, g := range few() {
		for span := range g.Spans {
			for _, h := range heads() {
				words, want := fresh(g), make([]api.Head, g.Spans)
				words[headAt(g, span)], want[span] = headWord(h), h
				headsAre(t, g, words, want)
			}
		}
	}
}

// Heads, maps and lanes are told whatever the superblock is: they go by the geometry that is handed in.
func TestP12_2WithoutSuperblock(t *testing.T) {
	for _, g := range few() {
		for i := range 8 {
			words := busy(g)
			want, _ := image.Heads(g, words)
			maps := image.Maps(g, words)
			written(words, g.Lanes-1, spread(g, 3, 3, 3))
			words[i] ^= 1 << (i * 7)
			headsAre(t, g, words, want)
			if got := image.Maps(g, words); !slices.Equal(got, maps) {
				t.Fatalf("%v: maps %v, not %v", g, got, maps)
			}
			lanesAre(t, g, words, plainLanes(g, words))
			words = slices.Concat(make([]uint64, 8), words[8:])
			headsAre(t, g, words, want)
			lanesAre(t, g, words, plainLanes(g, words))
		}
	}
}

// One word that is no head's, at each span.
func TestP12_2NoHead(t *testing.T) {
	for _, g := range few() {
		for span := range g.Spans {
			for _, x := range noHeadWords() {
				words := busy(g)
				words[headAt(g, span)] = x
				if l, e := image.Heads(g, words); len(l) != 0 || e != api.ErrCorrupt {
					t.Fatalf("%v, %d, %x: %v, %d", g, span, x, l, e)
				}
			}
		}
	}
}

// Words that would be no heads', all around the words that must be.
func TestP12_2HeadsAmongOthers(t *testing.T) {
	for _, g := range few() {
		words := slices.Repeat([]uint64{full}, total(g))
		want := make([]api.Head, g.Spans)
		for span := range g.Spans {
			want[span] = heads()[(span+7)%12]
			words[headAt(g, span)] = headWord(want[span])
		}
		headsAre(t, g, words, want)
	}
}

func TestP12_2MapsEachGeometry(t *testing.T) {
	for _, g := range everyGeometry() {
		for _, words := range [][]uint64{fresh(g), busy(g)} {
			var want []uint64
			for span := range g.Spans {
				want = append(want, words[headAt(g, span)+1])
			}
			if got := image.Maps(g, words); !slices.Equal(got, want) {
				t.Fatalf("%v: maps %x, not %x", g, got, want)
			}
		}
	}
}

// Each bit, at each span, whatever the heads' other words are: also of what is no head, and of a span that is free.
func TestP12_2MapsEachBit(t *testing.T) {
	for _, g := range few() {
		for span := range g.Spans {
			for bit := range 64 {
				for _, head := range []uint64{0, headWord(heads()[5]), 1, full} {
					words, want := fresh(g), make([]uint64, g.Spans)
					words[headAt(g, span)], words[headAt(g, span)+1], words[headAt(g, span)+2] = head, 1<<bit, full
					want[span] = 1 << bit
					if got := image.Maps(g, words); !slices.Equal(got, want) {
						t.Fatalf("%v: maps %x, not %x", g, got, want)
					}
				}
			}
		}
	}
}

// Of geometries that may not be nothing is told, whatever words there are: none, as many as another geometry has, or as many as this one would have.
func TestP12_2OfNoGeometry(t *testing.T) {
	for _, g := range noGeometries() {
		for _, words := range [][]uint64{nil, {}, make([]uint64, 8), fresh(least), busy(middle), fresh(most)} {
			nothing(t, g, words)
		}
		if n := total(g); n > 0 && n < 1<<17 {
			nothing(t, g, make([]uint64, n))
		}
	}
}

// Of other than as many words as the geometry has nothing is told, also of as many as another geometry has.
func TestP12_2OtherCounts(t *testing.T) {
	for _, g := range few() {
		for _, words := range otherCounts(busy(g)) {
			nothing(t, g, words)
		}
		for _, h := range everyGeometry() {
			if total(h) != total(g) {
				nothing(t, g, fresh(h))
			}
		}
	}
}

// What a caller does with an answer turns no other one, and not the image.
func TestP12_2Unshared(t *testing.T) {
	for _, g := range few() {
		words := busy(g)
		was := slices.Clone(words)
		l, _ := image.Heads(g, words)
		m, _ := image.Heads(g, words)
		maps, others := image.Maps(g, words), image.Maps(g, words)
		want, wantMaps := slices.Clone(l), slices.Clone(maps)
		for i := range l {
			l[i], maps[i] = api.Head{Kind: 9}, ^maps[i]
		}
		_, _ = append(l, api.Head{Kind: 8}), append(maps, 8)
		headsAre(t, g, words, want)
		if !slices.Equal(m, want) || !slices.Equal(others, wantMaps) || !slices.Equal(image.Maps(g, words), wantMaps) || !slices.Equal(words, was) {
			t.Fatalf("%v: turned by what was done with an answer", g)
		}
	}
}

// alone are the lanes' logs where just one lane counts.
func alone(g api.Geometry, lane int, l []api.Entry) [][]api.Entry {
	all := make([][]api.Entry, g.Lanes)
	all[lane] = l
	return all
}

// No lane of a fresh image counts, nor of one without seals.
func TestP12_3NoLog(t *testing.T) {
	for _, g := range everyGeometry() {
		lanesAre(t, g, fresh(g), make([][]api.Entry, g.Lanes))
		lanesAre(t, g, busy(g), make([][]api.Entry, g.Lanes))
	}
}

// Logs of each length in each lane, with zeros behind them, and with whatever.
func TestP12_3EachLength(t *testing.T) {
	for _, g := range few() {
		for lane := range g.Lanes {
			for n := 1; n <= 16; n++ {
				for _, words := range [][]uint64{fresh(g), busy(g)} {
					l := spread(g, n, n, 7)
					written(words, lane, l)
					lanesAre(t, g, words, alone(g, lane, l))
					words[laneAt(lane)] = 0
					lanesAre(t, g, words, make([][]api.Entry, g.Lanes))
				}
			}
		}
	}
}

func TestP12_3Images(t *testing.T) {
	for _, g := range few() {
		for _, words := range images(g) {
			lanesAre(t, g, words, plainLanes(g, words))
		}
	}
}

// Each lane has its own log, and the longest one of each is as long as there may be.
func TestP12_3AllLanes(t *testing.T) {
	for _, g := range everyGeometry() {
		words := busy(g)
		var want [][]api.Entry
		for lane := range g.Lanes {
			l := spread(g, 16-lane%2, lane*17, 1)
			written(words, lane, l)
			want = append(want, l)
		}
		lanesAre(t, g, words, want)
	}
}

// A log is told whatever it writes: also where no log may, and behind the region's end.
func TestP12_3AnyAddress(t *testing.T) {
	for _, g := range few() {
		for _, at := range unwritable(g) {
			l := spread(g, 3, 1, 5)
			l[at%3].At = at
			words := fresh(g)
			written(words, at%g.Lanes, l)
			lanesAre(t, g, words, alone(g, at%g.Lanes, l))
		}
	}
}

// wrongSeals are some that aren't those of a log's words: small numbers, another log's, those of fewer words, of more, and of none, and the right one with a bit turned.
func wrongSeals(l []api.Entry) []uint64 {
	words := logWords(l)
	more := append(slices.Clone(words), 0, 0, 0)
	seals := []uint64{1, 12345, full, 1 << 63, 1 << 31, crc(words), crc(words) + uint64(len(words))<<32, seal([]uint64{5}), seal([]uint64{5, 9})}
	seals = append(seals, seal(words[:len(words)-1]), seal(words[1:]), seal(more[:len(words)+1]), seal(more), 1<<63+uint64(len(l))<<32+crc(words))
	for bit := range 64 {
		seals = append(seals, seal(words)^1<<bit)
	}
	return seals
}

// A lane with a seal that isn't its words' doesn't count, and others beside it do; a seal of 0 isn't one.
func TestP12_3WrongSeals(t *testing.T) {
	for _, g := range few() {
		for _, n := range []int{1, 2, 5, 16} {
			for lane := range g.Lanes {
				l := spread(g, n, lane, 3)
				words := busy(g)
				for other := range g.Lanes {
					written(words, other, spread(g, 17-n, other+9, 1))
				}
				want := plainLanes(g, words)
				want[lane] = nil
				written(words, lane, l)
				for _, x := range append(wrongSeals(l), 0) {
					words[laneAt(lane)] = x
					lanesAre(t, g, words, want)
				}
			}
		}
	}
}

// A log of which a bit is turned, among its words, doesn't count; with one turned behind it, or in the words beside its seal, it does.
func TestP12_3TurnedBits(t *testing.T) {
	for _, g := range []api.Geometry{least, middle} {
		lane := g.Lanes - 1
		for _, n := range []int{1, 4, 16} {
			l := spread(g, n, 2, 11)
			words := busy(g)
			written(words, lane, l)
			for off := 1; off < 40; off++ {
				for bit := range 64 {
					words[laneAt(lane)+off] ^= 1 << bit
					want := alone(g, lane, l)
					if off >= 8 && off < 8+2*n {
						want[lane] = nil
					}
					lanesAre(t, g, words, want)
					words[laneAt(lane)+off] ^= 1 << bit
				}
			}
		}
	}
}

// Words of a log of more entries than there may be, which go on in the next lane's: it doesn't count, though its seal is theirs.
func TestP12_3TooLong(t *testing.T) {
	for _, g := range few() {
		for lane := range g.Lanes {
			for n := 17; n <= 20; n++ {
				l := spread(g, n, 1, 1)
				words := fresh(g)
				copy(words[entryAt(lane, 0):], logWords(l))
				words[laneAt(lane)] = seal(logWords(l))
				if lane+1 < g.Lanes {
					words[laneAt(lane+1)] = 0
				}
				lanesAre(t, g, words, make([][]api.Entry, g.Lanes))
			}
		}
	}
}

// A log that stands behind the beginning of the lane's entries, or ahead of it, isn't the lane's.
func TestP12_3Displaced(t *testing.T) {
	for _, g := range few() {
		for lane := range g.Lanes {
			for _, off := range []int{1, 2, 3, 6, 7, 9, 10, 12, 38} {
				l := spread(g, 1, 1, 1)
				words := fresh(g)
				copy(words[laneAt(lane)+off:], logWords(l))
				words[laneAt(lane)] = seal(logWords(l))
				lanesAre(t, g, words, make([][]api.Entry, g.Lanes))
			}
		}
	}
}

// A seal that is beside the one of the lane doesn't make it count.
func TestP12_3SealBeside(t *testing.T) {
	for _, g := range few() {
		for lane := range g.Lanes {
			for _, off := range []int{-1, 1, 2, 7} {
				l := spread(g, 4, 1, 1)
				words := fresh(g)
				written(words, lane, l)
				words[laneAt(lane)], words[laneAt(lane)+off] = 0, words[laneAt(lane)]
				lanesAre(t, g, words, make([][]api.Entry, g.Lanes))
			}
		}
	}
}

// mays checks which addresses may be written, of each one of a region and of some around it.
func mays(t *testing.T, g api.Geometry) {
	t.Helper()
	want := map[int]bool{}
	for _, a := range writable(g) {
		want[a] = true
	}
	for a := -200; a < total(g)+200; a++ {
		if got := image.May(g, a); got != want[a] {
			t.Fatalf("%v, %d: %t", g, a, got)
		}
	}
}

// Each address from below 0 to behind the region's end, of all geometries that may be.
func TestP12_3May(t *testing.T) {
	for _, g := range everyGeometry() {
		mays(t, g)
	}
}

// The first and the last word of each area, and those beside them.
func TestP12_3MayAtEdges(t *testing.T) {
	g := api.Geometry{Spans: 2, Lanes: 3, Roots: 5}
	for a, want := range map[int]bool{
		-1: false, 0: false, 7: false, 8: true, 12: true, 13: false, 15: false, 16: false, 17: false, 135: false,
		136: true, 137: true, 138: false, 143: false, 144: true, 145: true, 146: false, 151: false, 152: true, 279: true, 280: false,
	} {
		if got := image.May(g, a); got != want {
			t.Errorf("%d: %t", a, got)
		}
	}
}

// Addresses that are far from the region, some of which would be right by their lowest bits.
func TestP12_3MayFar(t *testing.T) {
	far := []int{math.MaxInt, math.MaxInt - 1, math.MinInt, math.MinInt + 1, math.MaxInt32, math.MinInt32, math.MaxUint32}
	for bit := 11; bit < 63; bit++ {
		for _, off := range []int{-1, 0, 8, 9, 56, 57, 64, 100} {
			far = append(far, 1<<bit+off, -1<<bit+off)
		}
	}
	for _, g := range few() {
		for _, a := range far {
			if image.May(g, a) {
				t.Fatalf("%v: %d", g, a)
			}
		}
	}
}

func TestP12_3MayOfNoGeometry(t *testing.T) {
	for _, g := range noGeometries() {
		for a := -10; a < 400; a++ {
			if image.May(g, a) {
				t.Fatalf("%v: %d", g, a)
			}
		}
	}
}

// What a caller does with the lists, also with single lanes', turns no other one, and not the image.
func TestP12_3Unshared(t *testing.T) {
	for _, g := range few() {
		for _, words := range images(g) {
			was := slices.Clone(words)
			want := plainLanes(g, words)
			other, got := image.Lanes(g, words), image.Lanes(g, words)
			for lane := range got {
				_ = append(got[lane], spread(g, 16, 1, 1)...)
				for later := lane; later < len(got); later++ {
					if !slices.Equal(got[later], want[later]) {
						t.Fatalf("%v: lane %d turned by what was done with lane %d", g, later, lane)
					}
				}
				for i := range got[lane] {
					got[lane][i] = api.Entry{At: -1, X: full}
				}
			}
			for lane := range got {
				got[lane] = nil
			}
			_ = append(got, got...)
			if !slices.Equal(words, was) || !slices.EqualFunc(other, want, slices.Equal) {
				t.Fatalf("%v: turned by what was done with the answer", g)
			}
			lanesAre(t, g, words, want)
		}
	}
}

func TestP12_4Example(t *testing.T) {
	if got, e := image.Replayed(image.Fresh(least)); e != api.OK || !slices.Equal(got, fresh(least)) {
		t.Error(len(got), e)
	}
}

func TestP12_4Images(t *testing.T) {
	for _, g := range few() {
		for _, words := range images(g) {
			replays(t, g, words)
		}
	}
}

// Each address that may be written, of some geometries, by a log of one entry, and as the last one of a long log.
func TestP12_4EachAddress(t *testing.T) {
	for _, g := range []api.Geometry{least, {Spans: 2, Lanes: 4, Roots: 8}} {
		for _, at := range writable(g) {
			for _, n := range []int{1, 16} {
				l := spread(g, n, at, 1)
				l[n-1] = api.Entry{At: at, X: 77}
				words := busy(g)
				words[at] = 0
				written(words, at%g.Lanes, l)
				got, e := image.Replayed(words)
				if e != api.OK || got[at] != 77 {
					t.Fatalf("%v, %d: %d", g, at, e)
				}
				replays(t, g, words)
			}
		}
	}
}

// Of all geometries that may be, with a log in the last lane, for the edges of all that may be written.
func TestP12_4EachGeometry(t *testing.T) {
	for _, g := range everyGeometry() {
		var l []api.Entry
		for i, at := range edges(g) {
			l = append(l, api.Entry{At: at, X: uint64(i) + 1})
		}
		words := busy(g)
		written(words, g.Lanes-1, l)
		replays(t, g, words)
	}
}

// Of several entries of one address the last one is what stands there: of one log, and of several lanes', whichever of them count.
func TestP12_4Order(t *testing.T) {
	for _, g := range few() {
		for _, at := range edges(g) {
			for which := range 1 << g.Lanes {
				words := busy(g)
				want := words[at]
				for lane := range g.Lanes {
					l := []api.Entry{{At: at, X: uint64(lane)*10 + 1}, {At: rootAt(0), X: 4}, {At: at, X: uint64(lane)*10 + 2}, {At: at, X: uint64(lane)*10 + 3}}
					written(words, lane, l)
					if which>>lane&1 == 0 {
						words[laneAt(lane)] ^= 1
						continue
					}
					want = l[3].X
				}
				got, e := image.Replayed(words)
				if e != api.OK || at != rootAt(0) && got[at] != want {
					t.Fatalf("%v, %d, %b: %d, not %d, %d", g, at, which, got[at], want, e)
				}
				replays(t, g, words)
			}
		}
	}
}

// Behind it all seals are 0, of lanes that count and of others; the words behind them, and all words that no entry names, are as they were.
func TestP12_4AllElse(t *testing.T) {
	for _, g := range few() {
		for which := range 1 << (2 * g.Lanes) {
			words := busy(g)
			named := map[int]bool{}
			for lane := range g.Lanes {
				l := spread(g, 1+(which+lane*5)%16, which, 13)
				written(words, lane, l)
				words[laneAt(lane)] = []uint64{0, 12345, seal(logWords(l)), seal(logWords(l)) ^ 1<<40}[which>>(2*lane)&3]
				named[laneAt(lane)] = true
				for _, e := range l {
					named[e.At] = named[e.At] || which>>(2*lane)&3 == 2
				}
			}
			got, e := image.Replayed(words)
			if e != api.OK || len(got) != len(words) {
				t.Fatalf("%v, %b: %d words, %d", g, which, len(got), e)
			}
			for a := range got {
				if !named[a] && got[a] != words[a] {
					t.Fatalf("%v, %b: %d turned from %x to %x", g, which, a, words[a], got[a])
				}
			}
			for lane := range g.Lanes {
				if got[laneAt(lane)] != 0 {
					t.Fatalf("%v, %b: seal of lane %d is %x", g, which, lane, got[laneAt(lane)])
				}
			}
			replays(t, g, words)
		}
	}
}

// Words that are no heads' don't matter, at any span; and a log may mend one, or break one.
func TestP12_4NoHeads(t *testing.T) {
	for _, g := range few() {
		for _, span := range []int{0, g.Spans / 2, g.Spans - 1} {
			for _, x := range []uint64{1, full, 1 << 40} {
				words := busy(g)
				words[headAt(g, span)] = x
				replays(t, g, words)
				written(words, 0, []api.Entry{{At: headAt(g, span), X: headWord(heads()[3])}})
				replays(t, g, words)
				written(words, 0, []api.Entry{{At: headAt(g, span), X: x}})
				replays(t, g, words)
			}
		}
	}
}

// An entry whose address may not be written, of each that there is, alone; in a lane that doesn't count it doesn't matter.
func TestP12_4WrongAddress(t *testing.T) {
	for _, g := range few() {
		for _, at := range unwritable(g) {
			lane := at % g.Lanes
			words := busy(g)
			written(words, lane, []api.Entry{{At: at, X: 5}})
			refused(t, at, words)
			words[laneAt(lane)] ^= 1
			replays(t, g, words)
			words[laneAt(lane)] = 0
			replays(t, g, words)
			if at < total(g) {
				// Nor may it be written, if what is there already would stay.
				written(words, lane, []api.Entry{{At: at, X: words[at]}})
				refused(t, at, words)
			}
		}
	}
}

// wrongs are some addresses that may not be written, of each area.
func wrongs(g api.Geometry) []int {
	l := []int{0, 3, 7, laneAt(0), laneAt(g.Lanes - 1), entryAt(0, 0), laneAt(g.Lanes-1) + 39, headAt(g, 0) + 2, headAt(g, g.Spans-1) + 2, headAt(g, g.Spans-1) + 7, total(g), 16383}
	if g.Roots < 8 {
		l = append(l, rootAt(g.Roots), rootAt(7))
	}
	return l
}

// Such an entry first, in the middle and last of a log, in each lane, with logs of earlier and later lanes that may be replayed, and without.
func TestP12_4WrongAddressAmongOthers(t *testing.T) {
	for _, g := range few() {
		for _, at := range wrongs(g) {
			for lane := range g.Lanes {
				for _, n := range []int{2, 3, 16} {
					for _, i := range []int{0, n / 2, n - 1} {
						l := spread(g, n, 2, 3)
						l[i].At = at
						words := fresh(g)
						written(words, lane, l)
						refused(t, at, words)
						for other := range g.Lanes {
							written(words, other, spread(g, 1+other*5, other, 3))
						}
						replays(t, g, words)
						written(words, lane, l)
						refused(t, at, words)
						words[entryAt(lane, n-1)+1] ^= 1
						replays(t, g, words)
					}
				}
			}
		}
	}
}

// An entry that may be written behind one that may not, of the same address's neighbours, doesn't make up for it; nor does a later lane's.
func TestP12_4WrongThenRight(t *testing.T) {
	g := middle
	for _, at := range wrongs(g) {
		words := busy(g)
		written(words, 0, []api.Entry{{At: at, X: 1}, {At: rootAt(0), X: 1}, {At: spanAt(g, 1), X: 1}})
		written(words, 1, []api.Entry{{At: rootAt(0), X: 1}})
		refused(t, at, words)
		written(words, 0, []api.Entry{{At: rootAt(0), X: 1}})
		replays(t, g, words)
		written(words, 1, []api.Entry{{At: spanAt(g, 1), X: 1}, {At: at, X: 1}})
		refused(t, at, words)
	}
}

// Words that don't begin with a superblock that fits.
func TestP12_4NoGeometry(t *testing.T) {
	for _, g := range few() {
		for _, words := range otherCounts(busy(g)) {
			refused(t, g, words)
		}
		for i := range 8 {
			for bit := range 64 {
				words := fresh(g)
				words[i] ^= 1 << bit
				refused(t, g, words)
			}
		}
		words := busy(g)
		written(words, 0, spread(g, 3, 1, 1))
		copy(words, make([]uint64, 8))
		refused(t, g, words)
		for _, h := range everyGeometry() {
			words := fresh(g)
			copy(words, super(h))
			if total(h) == total(g) {
				replays(t, h, words)
				continue
			}
			refused(t, h, words)
		}
	}
}

// Which roots there are is told by the superblock: a log for one of them may not be replayed where there are fewer.
func TestP12_4Roots(t *testing.T) {
	for roots := 1; roots <= 8; roots++ {
		g := api.Geometry{Spans: 1, Lanes: 2, Roots: roots}
		for root := range 8 {
			words := fresh(g)
			written(words, 1, []api.Entry{{At: rootAt(root), X: 9}})
			got, e := image.Replayed(words)
			if root < roots && (e != api.OK || got[rootAt(root)] != 9) || root >= roots && (e != api.ErrCorrupt || len(got) != 0) {
				t.Errorf("%d of %d: %d", root, roots, e)
			}
		}
	}
}

// A log that is stored is none that is read: what an earlier lane's log writes turns no later lane's.
func TestP12_4LogsAsTheyWere(t *testing.T) {
	g := most
	words := busy(g)
	for lane := range g.Lanes {
		written(words, lane, spread(g, 16, lane*16, 1))
	}
	want := plainLanes(g, words)
	got, e := image.Replayed(words)
	if e != api.OK {
		t.Fatal(e)
	}
	lanesAre(t, g, got, make([][]api.Entry, g.Lanes))
	for lane, l := range want {
		// The logs' words still stand in their lanes.
		if !slices.Equal(got[entryAt(lane, 0):laneAt(lane)+40], logWords(l)) {
			t.Errorf("lane %d: words turned", lane)
		}
	}
}

// What is handed in stays as it is, its spare room too, and an answer shares no memory with it, nor with another one.
func TestP12_4Unchanged(t *testing.T) {
	for _, g := range few() {
		broken := busy(g)
		written(broken, g.Lanes-1, []api.Entry{{At: rootAt(0), X: 5}, {At: 0, X: 1}})
		for _, words := range append(images(g), broken) {
			room := append(slices.Clone(words), mixed(50, 3)...)
			was := slices.Clone(room)
			in := room[:len(words)]
			got, e := image.Replayed(in)
			other, _ := image.Replayed(in)
			want := slices.Clone(got)
			for i := range got {
				got[i] = ^got[i]
			}
			_ = append(got, 1, 2, 3)
			again, f := image.Replayed(in)
			if e != f || !slices.Equal(again, want) || !slices.Equal(other, want) {
				t.Fatalf("%v: turned by what was done with the answer", g)
			}
			askAll(g, in)
			if !slices.Equal(room, was) {
				t.Fatalf("%v: what was handed in turned at %d", g, differ(room, was))
			}
			in[0]++
			if !slices.Equal(other, want) {
				t.Fatalf("%v: an answer turned with what was handed in", g)
			}
		}
	}
}

// askAll asks each call that tells of an image.
func askAll(g api.Geometry, words []uint64) {
	image.Geometry(words)
	image.Heads(g, words)
	image.Maps(g, words)
	image.Lanes(g, words)
	image.May(g, 8)
}

// Replayed twice an image is what it is once.
func TestP12_5Twice(t *testing.T) {
	for _, g := range few() {
		for _, words := range images(g) {
			once, e := image.Replayed(words)
			if e != api.OK {
				t.Fatalf("%v: %d", g, e)
			}
			twice, e := image.Replayed(once)
			if e != api.OK || !slices.Equal(once, twice) {
				t.Fatalf("%v: replayed twice it is other, %d, at %d", g, e, differ(once, twice))
			}
			if h, e := image.Geometry(once); h != g || e != api.OK {
				t.Fatalf("%v: %v, %d", g, h, e)
			}
			lanesAre(t, g, once, make([][]api.Entry, g.Lanes))
		}
	}
}

// A fresh image replayed is itself, of all geometries that may be; it is of its geometry, has free spans, empty maps, and no lane that counts.
func TestP12_5Fresh(t *testing.T) {
	for _, g := range everyGeometry() {
		words := image.Fresh(g)
		if got, e := image.Replayed(words); e != api.OK || !slices.Equal(got, words) {
			t.Fatalf("%v: %d words, %d", g, len(got), e)
		}
		if h, e := image.Geometry(words); h != g || e != api.OK {
			t.Fatalf("%v: %v, %d", g, h, e)
		}
		headsAre(t, g, words, make([]api.Head, g.Spans))
		if got := image.Maps(g, words); !slices.Equal(got, make([]uint64, g.Spans)) {
			t.Fatalf("%v: maps %v", g, got)
		}
		lanesAre(t, g, words, make([][]api.Entry, g.Lanes))
	}
}

// What was asked ahead of it turns no answer: neither of the same words while they were others, nor of another geometry.
func TestP12_5Same(t *testing.T) {
	words := busy(most)
	for i := range 5 {
		for _, g := range few() {
			replays(t, g, busy(g))
		}
		l := spread(most, 1+3*i, i, 7)
		written(words, i%4, l)
		lanesAre(t, most, words, plainLanes(most, words))
		replays(t, most, words)
		nothing(t, middle, words)
		words[headAt(most, i)] = headWord(heads()[i])
		if got, e := image.Heads(most, words); e != api.OK || got[i] != heads()[i] {
			t.Fatal(got, e)
		}
	}
}
