package super

import (
	"hash/crc32"
	"math"
	"slices"
	"testing"

	"trencher/api"
	"trencher/geom"
	"trencher/sum"
)

// full is the word whose bits are all 1.
const full = math.MaxUint64

// least and most are the geometries at the edges; middle is one between them, with other numbers of each kind.
var (
	least  = api.Geometry{Spans: 1, Lanes: 1, Roots: 1}
	most   = api.Geometry{Spans: 16, Lanes: 4, Roots: 8}
	middle = api.Geometry{Spans: 2, Lanes: 3, Roots: 5}
)

// few are the geometries that are tried where all would take long: those at the edges, those with one number at the other edge, and one between.
func few() []api.Geometry {
	return []api.Geometry{least, middle, most, {Spans: 16, Lanes: 1, Roots: 1}, {Spans: 1, Lanes: 4, Roots: 1}, {Spans: 1, Lanes: 1, Roots: 8}, {Spans: 1, Lanes: 4, Roots: 8}, {Spans: 16, Lanes: 1, Roots: 8}, {Spans: 16, Lanes: 4, Roots: 1}}
}

// everyGeometry are all that may be.
func everyGeometry() []api.Geometry {
	var l []api.Geometry
	for spans := 1; spans <= 16; spans++ {
		for lanes := 1; lanes <= 4; lanes++ {
			for roots := 1; roots <= 8; roots++ {
				l = append(l, api.Geometry{Spans: spans, Lanes: lanes, Roots: roots})
			}
		}
	}
	return l
}

// wrongCounts are numbers of which there are none of anything that has so many at most, those at the edges first.
func wrongCounts(most int) []int {
	return []int{0, most + 1, -1, most + 2, -2, most * 2, -most, 255, 256, 1<<8 + 1, 1<<15 + 1, 1<<16 - 1, 1 << 16, 1<<16 + 1, 1 << 32, 1<<32 + 1, -1 << 16, 1 - 1<<16, -1 << 32, 1 - 1<<32, math.MaxInt32, math.MinInt32, math.MaxInt - 1, math.MaxInt, math.MinInt, math.MinInt + 1}
}

// noGeometries are some that may not be: with one number that is wrong, with two, and with three.
func noGeometries() []api.Geometry {
	l := []api.Geometry{{}, {Spans: -1, Lanes: -1, Roots: -1}, {Spans: 17, Lanes: 5, Roots: 9}, {Spans: 16, Lanes: 8, Roots: 4}, {Spans: 8, Lanes: 16, Roots: 4}, {Spans: 4, Lanes: 4, Roots: 16}}
	for _, g := range few() {
		for _, n := range wrongCounts(16) {
			l = append(l, api.Geometry{Spans: n, Lanes: g.Lanes, Roots: g.Roots})
		}
		for _, n := range wrongCounts(4) {
			l = append(l, api.Geometry{Spans: g.Spans, Lanes: n, Roots: g.Roots})
		}
		for _, n := range wrongCounts(8) {
			l = append(l, api.Geometry{Spans: g.Spans, Lanes: g.Lanes, Roots: n})
			l = append(l, api.Geometry{Spans: n * 3, Lanes: n * 3, Roots: n * 3})
		}
	}
	return l
}

// plainTotal is how many words a geometry's region has, by the document's numbers: the superblock, the roots' line, the lanes, and the heads and words of the spans.
func plainTotal(g api.Geometry) int {
	return 8 + 8 + 40*g.Lanes + (8+64)*g.Spans
}

// plainSeal is the seal of words, by the library's sum.
func plainSeal(words []uint64) uint64 {
	var b []byte
	for _, w := range words {
		for range 8 {
			b = append(b, byte(w%256))
			w /= 256
		}
	}
	return 1<<63 + uint64(len(words))<<32 + uint64(crc32.ChecksumIEEE(b))
}

// sealed lays the seal that fits behind the seven words ahead of it, in place, and has the words.
func sealed(words []uint64) []uint64 {
	words[7] = plainSeal(words[:7])
	return words
}

// plain is a geometry's superblock, word by word as the document's Words have it.
func plain(g api.Geometry) []uint64 {
	l := []uint64{
		0x7472656e63686572,
		3,
		uint64(g.Spans) + uint64(g.Lanes)*65536 + uint64(g.Roots)*65536*65536,
		uint64(plainTotal(g)),
		0, 0, 0,
		0,
	}
	return sealed(l)
}

// laid are so many words of which the first ones are these, the others mixed.
func laid(first []uint64, many int) []uint64 {
	l := make([]uint64, many)
	x := uint64(0x9e3779b97f4a7c15)
	for i := range l {
		x = x*6364136223846793005 + 1442695040888963407
		l[i] = x ^ x>>29
	}
	copy(l, first)
	return l
}

// region are the words of a geometry's region: its superblock, and others behind it.
func region(g api.Geometry) []uint64 {
	return laid(plain(g), plainTotal(g))
}

// read checks that words are read as a geometry.
func read(t *testing.T, words []uint64, g api.Geometry) {
	t.Helper()
	if got, e := Read(words); got != g || e != api.OK {
		t.Fatalf("%v of %d words: read as %v, %d", g, len(words), got, e)
	}
}

// refused checks that words are corrupt, and that nothing is told beside that.
func refused(t *testing.T, words []uint64, what ...any) {
	t.Helper()
	if got, e := Read(words); got != (api.Geometry{}) || e != api.ErrCorrupt {
		t.Fatalf("%v: %d words, beginning with %x: read as %v, %d", what, len(words), words[:min(len(words), 8)], got, e)
	}
}

// turned checks, of a few geometries, that their words aren't read once a word of the superblock was put to another number and the seal was made to fit.
func turned(t *testing.T, which int, others func(was uint64) []uint64) {
	t.Helper()
	for _, g := range few() {
		words := region(g)
		was := words[which]
		for _, x := range others(was) {
			if x == was {
				t.Fatalf("%x isn't another number", x)
			}
			words[which] = x
			refused(t, sealed(words), g, which)
		}
		words[which] = was
		read(t, sealed(words), g)
	}
}

// near are other numbers than x: with one bit turned, its neighbours, its parts, and some that it isn't.
func near(x uint64) []uint64 {
	l := []uint64{x + 1, x - 1, x + 2, x - 2, ^x, -x, x * 2, x << 32, x << 16, x << 56, 0, 1, 2, 3, 4, full, full >> 1}
	for bit := range 64 {
		l = append(l, x^1<<bit)
	}
	return slices.DeleteFunc(l, func(other uint64) bool { return other == x })
}

func TestP7_1Examples(t *testing.T) {
	w := Write(least)
	if len(w) != 8 || w[2] != 1<<32+1<<16+1 || w[3] != 128 {
		t.Fatalf("%x", w)
	}
	for _, c := range []struct {
		g             api.Geometry
		counts, words uint64
	}{{middle, 0x500030002, 280}, {most, 0x800040010, 1328}, {api.Geometry{Spans: 16, Lanes: 1, Roots: 1}, 0x100010010, 1208}, {api.Geometry{Spans: 1, Lanes: 4, Roots: 1}, 0x100040001, 248}, {api.Geometry{Spans: 1, Lanes: 1, Roots: 8}, 0x800010001, 128}} {
		if w := Write(c.g); len(w) != 8 || w[2] != c.counts || w[3] != c.words {
			t.Errorf("%v: %x", c.g, w)
		}
	}
}

func TestP7_1EachGeometry(t *testing.T) {
	for _, g := range everyGeometry() {
		w := Write(g)
		if !slices.Equal(w, plain(g)) {
			t.Fatalf("%v: %x, not %x", g, w, plain(g))
		}
		// The words are those of layers 3 and 5, of the number that api has.
		if w[1] != api.Version || w[3] != uint64(geom.Total(g)) || !sum.Fits(w[7], w[:7]...) {
			t.Fatalf("%v: %x", g, w)
		}
	}
}

func TestP7_1NoGeometry(t *testing.T) {
	for _, g := range noGeometries() {
		if w := Write(g); len(w) != 0 {
			t.Errorf("%v: %x", g, w)
		}
	}
}

// What is answered is the asker's own: writing there, or behind it, turns no other answer.
func TestP7_1New(t *testing.T) {
	one, two := Write(middle), Write(middle)
	for i := range one {
		one[i] = full
	}
	_ = append(one[:4], 1, 2, 3, 4, 5, 6, 7, 8)
	if !slices.Equal(two, plain(middle)) || !slices.Equal(Write(middle), plain(middle)) {
		t.Error("an answer of Write shares memory with another one")
	}
	read(t, region(middle), middle)
}

func TestP7_2EachGeometry(t *testing.T) {
	for _, g := range everyGeometry() {
		read(t, region(g), g)
	}
}

// What stands behind the superblock doesn't matter.
func TestP7_2Rest(t *testing.T) {
	for _, g := range few() {
		for _, fill := range []uint64{0, 1, full, 0x7472656e63686572, 1 << 63} {
			words := slices.Repeat([]uint64{fill}, plainTotal(g))
			copy(words, plain(g))
			read(t, words, g)
			// A second superblock, of another geometry, tells nothing.
			copy(words[8:], plain(api.Geometry{Spans: 3, Lanes: 2, Roots: 1}))
			read(t, words, g)
		}
	}
}

// A superblock tells one number of words: with fewer, and with more, there is none of its regions.
func TestP7_2Many(t *testing.T) {
	for _, g := range few() {
		total := plainTotal(g)
		long := laid(plain(g), 2*total+1)
		for n := range len(long) + 1 {
			if n == total {
				read(t, long[:n], g)
				continue
			}
			refused(t, long[:n], g, n)
		}
	}
}

// The edges of each geometry, and each other geometry's number of words.
func TestP7_2ManyOfEach(t *testing.T) {
	totals := map[int]int{}
	for _, g := range everyGeometry() {
		totals[plainTotal(g)]++
	}
	for _, g := range everyGeometry() {
		total := plainTotal(g)
		long := laid(plain(g), 16384)
		for _, n := range []int{8, 9, total - 8, total - 1, total + 1, total + 8, total * 2, 16383, 16384} {
			refused(t, long[:n], g, n)
		}
		for n := range totals {
			if n != total {
				refused(t, long[:n], g, n)
			}
		}
	}
}

func TestP7_2NoWords(t *testing.T) {
	refused(t, nil)
	refused(t, []uint64{})
	refused(t, region(least)[:0])
}

// Fewer than eight words, whatever stands in the room behind them.
func TestP7_2FewWords(t *testing.T) {
	for n := range 8 {
		for _, g := range few() {
			refused(t, plain(g)[:n], g, n)
			refused(t, slices.Clone(plain(g)[:n]), g, n)
			refused(t, slices.Clip(plain(g)[:n]), g, n)
		}
		refused(t, make([]uint64, n), n)
		refused(t, slices.Repeat([]uint64{full}, n), n)
		// A seal that stands where the words end doesn't make them a superblock.
		if n > 0 {
			l := slices.Clone(plain(least)[:n])
			l[n-1] = plainSeal(l[:n-1])
			refused(t, l, n)
		}
	}
}

// Words of a region's number that aren't a superblock, however alike they are, and a superblock that begins later.
func TestP7_2OtherWords(t *testing.T) {
	for _, g := range few() {
		total := plainTotal(g)
		refused(t, make([]uint64, total), g)
		refused(t, sealed(make([]uint64, total)), g)
		refused(t, slices.Repeat([]uint64{full}, total), g)
		refused(t, laid(nil, total), g)
		refused(t, sealed(laid(nil, total)), g)
		for behind := 1; behind <= 8; behind++ {
			words := make([]uint64, total)
			copy(words[behind:], plain(g))
			refused(t, words, g, behind)
		}
		mirrored := plain(g)
		slices.Reverse(mirrored)
		refused(t, laid(mirrored, total), g)
	}
}

// Two words that have changed places, with a seal that fits.
func TestP7_2Swapped(t *testing.T) {
	for _, g := range few() {
		for i := range 7 {
			for k := range i {
				words := region(g)
				if words[i] == words[k] {
					continue
				}
				words[i], words[k] = words[k], words[i]
				refused(t, sealed(words), g, i, k)
			}
		}
	}
}

// The right words of another number, with a seal that fits.
func TestP7_2Mark(t *testing.T) {
	turned(t, 0, func(was uint64) []uint64 {
		// The same text with the bytes the other way round, in capitals, and half of it.
		return append(near(was), 0x726568636e657274, 0x5452454e43484552, 0x63686572, 0x7472656e00000000)
	})
}

// The right words of another Version, with a seal that fits.
func TestP7_2Version(t *testing.T) {
	turned(t, 1, near)
}

// Bits above the three fields, with a seal that fits.
func TestP7_2AboveCounts(t *testing.T) {
	turned(t, 2, func(was uint64) []uint64 {
		l := []uint64{was | 0xffff<<48, was | 3<<48, was | 1<<63 | 1<<48}
		for bit := 48; bit < 64; bit++ {
			l = append(l, was|1<<bit)
		}
		return l
	})
}

// Counts of another geometry that may be, where the rest stays this one's, with a seal that fits: of those that have as many words the counts are right.
func TestP7_2OtherCounts(t *testing.T) {
	for _, g := range few() {
		for _, other := range everyGeometry() {
			words := region(g)
			words[2] = plain(other)[2]
			if plainTotal(g) == plainTotal(other) {
				read(t, sealed(words), other)
				continue
			}
			refused(t, sealed(words), g, other)
			// As many words as the other one has.
			refused(t, sealed(laid(words[:8], plainTotal(other))), g, other)
		}
	}
}

// fieldsWrong are counts that fit into the fields, and of which a geometry may not have one or more.
func fieldsWrong() [][3]int {
	right := [3]int{16, 4, 8}
	var l [][3]int
	for field, most := range right {
		for _, n := range wrongCounts(most) {
			if n < 0 || n > 65535 {
				continue
			}
			for _, others := range [][3]int{{1, 1, 1}, {2, 3, 5}, right, {n, n, n}} {
				others[field] = n
				l = append(l, others)
			}
		}
	}
	return l
}

// Spans, lanes or roots in their fields that a geometry may not have, with a seal that fits, and as many words as such a geometry's region would have.
func TestP7_2WrongCounts(t *testing.T) {
	for _, c := range fieldsWrong() {
		x := uint64(c[0]) | uint64(c[1])<<16 | uint64(c[2])<<32
		total := plainTotal(api.Geometry{Spans: c[0], Lanes: c[1], Roots: c[2]})
		for _, said := range []int{total, 0, 8, 128, 280, 1328} {
			first := plain(least)
			first[2], first[3] = x, uint64(said)
			sealed(first)
			for _, many := range []int{8, 16, 128, 280, 1328, min(total, 20000)} {
				refused(t, laid(first, many), c, said)
			}
		}
	}
}

// Each field of no bits, and all of them: none, with a seal that fits, are a geometry's.
func TestP7_2NoCounts(t *testing.T) {
	turned(t, 2, func(was uint64) []uint64 {
		return []uint64{0, full, was &^ 0xffff, was &^ (0xffff << 16), was &^ (0xffff << 32), was | 0xffff, was | 0xffff<<16, was | 0xffff<<32, was << 16, was >> 16, was << 8}
	})
}

// Other numbers than 0 where the zeros stand, with a seal that fits.
func TestP7_2Zeros(t *testing.T) {
	for which := 4; which <= 6; which++ {
		turned(t, which, near)
	}
}

// Several other numbers where the zeros stand, also such that make up for one another, with a seal that fits.
func TestP7_2ZerosTogether(t *testing.T) {
	for _, g := range few() {
		for _, zeros := range [][3]uint64{{1, 1, 0}, {1, 0, 1}, {0, 1, 1}, {1, 1, 1}, {1, 2, 3}, {1, full, 0}, {0, 1, full}, {full, 0, 1}, {full, full, 2}, {1 << 63, 1 << 63, 0}, {0, 1 << 63, 1 << 63}, {full, full, full}} {
			words := region(g)
			copy(words[4:7], zeros[:])
			refused(t, sealed(words), g, zeros)
		}
	}
}

// A wrong number of words, with a seal that fits: neither with as many words as the geometry has, nor with as many as are told.
func TestP7_2WrongTotal(t *testing.T) {
	turned(t, 3, func(was uint64) []uint64 {
		return append(near(was), was+8, was-8, was+40, was+64, was+72, was-72, was+1<<16, was+1<<32, was|1<<63, was*8, 16384)
	})
	for _, g := range few() {
		total := plainTotal(g)
		for said := range 2 * total {
			if said == total {
				continue
			}
			first := plain(g)
			first[3] = uint64(said)
			refused(t, laid(sealed(first), said), g, said)
		}
	}
}

// Other seals than the one that fits the seven words ahead: of fewer of them, of more, of other ones, and parts of it.
func TestP7_2Seal(t *testing.T) {
	for _, g := range everyGeometry() {
		words := region(g)
		was := words[7]
		others := []uint64{words[0], plain(api.Geometry{Spans: 17 - g.Spans, Lanes: g.Lanes, Roots: g.Roots})[7], was &^ (1 << 63), was & 0xffffffff, was>>32<<32 | ^was&0xffffffff, was>>32 | was<<32}
		for n := range 16 {
			if n != 7 {
				others = append(others, plainSeal(words[:n]))
			}
		}
		for _, x := range append(others, near(was)...) {
			words[7] = x
			refused(t, words, g, x)
		}
		words[7] = was
		read(t, words, g)
	}
}

// What is handed in stays as it is, the room behind it too, whether it is read or not.
func TestP7_2Unchanged(t *testing.T) {
	for _, g := range few() {
		total := plainTotal(g)
		long := laid(plain(g), total+16)
		for _, wrong := range []int{-1, 0, 1, 2, 3, 4, 5, 6, 7} {
			if wrong >= 0 {
				long[wrong] ^= 1 << 5
			}
			was := slices.Clone(long)
			for _, n := range []int{0, 1, 7, 8, 9, total - 1, total, total + 1, len(long)} {
				Read(long[:n])
				if !slices.Equal(long, was) {
					t.Fatalf("%v: Read changed what was handed in", g)
				}
			}
			if wrong >= 0 {
				long[wrong] ^= 1 << 5
			}
		}
	}
}

// What was read ahead of it turns no answer, and words that turn behind it don't either.
func TestP7_2Same(t *testing.T) {
	words := region(middle)
	for _, g := range everyGeometry() {
		read(t, region(g), g)
		refused(t, plain(g), g)
		read(t, words, middle)
	}
	g, e := Read(words)
	clear(words)
	refused(t, words)
	if g != middle || e != api.OK {
		t.Error(g, e)
	}
}

// The words that Write tells are read as the geometry whose they are; with any one bit turned they aren't.
func TestP7_3EachGeometry(t *testing.T) {
	for _, g := range everyGeometry() {
		words := laid(Write(g), geom.Total(g))
		read(t, words, g)
		for i := range 8 {
			for bit := range 64 {
				words[i] ^= 1 << bit
				refused(t, words, g, i, bit)
				words[i] ^= 1 << bit
			}
		}
		read(t, words, g)
	}
}

// With any one bit turned among the seven words and the seal made to fit, the words aren't read as the same geometry.
func TestP7_3Resealed(t *testing.T) {
	for _, g := range everyGeometry() {
		words := region(g)
		for i := range 7 {
			for bit := range 64 {
				words[i] ^= 1 << bit
				if got, e := Read(sealed(words)); got == g || e == api.OK && plainTotal(got) != plainTotal(g) || e != api.OK && got != (api.Geometry{}) {
					t.Fatalf("%v: bit %d of word %d turned: read as %v, %d", g, bit, i, got, e)
				}
				words[i] ^= 1 << bit
			}
		}
	}
}

// Bits that turn behind the superblock don't matter.
func TestP7_3Behind(t *testing.T) {
	for _, g := range few() {
		words := region(g)
		for i := 8; i < len(words); i++ {
			words[i] ^= 1 << (i % 64)
			read(t, words, g)
		}
	}
}
