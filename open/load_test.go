package open_test

import (
	"testing"

	"trencher/api"
	"trencher/env"
	"trencher/locks"
	"trencher/open"
	"trencher/pmem"
)

// packed is a picture of one span, full of objects with slots alone, to which all roots point: each word of the superblock, of the roots, of the head and its map, and of the heap matters.
func packed(lanes int) picture {
	p := drawn(lanes, 8, of(small(3)))
	for i := range 4 {
		p.lay(0, i, 15, 15, p.at(0, 1), p.at(0, 3))
	}
	p.lay(0, 3, 15, 15, p.at(0, 0), p.at(0, 2))
	return p.roots(p.at(0, 0), 0, p.at(0, 1), p.at(0, 2), 0, 0, p.at(0, 3), p.at(0, 0))
}

// needed are the addresses at which another word makes the picture one that can't be mended.
func needed(p picture) map[int]int {
	m := map[int]int{headAt(p.g, 0): 1, mapAt(p.g, 0): 1}
	for a := range 16 {
		m[a] = 1
	}
	for a := spanAt(p.g, 0); a < total(p.g); a++ {
		m[a] = 1
	}
	return m
}

// packedByLog is such a picture whose root 0 is right only by the log of a lane: each word of that matters, too, and the root itself doesn't.
func packedByLog(lanes, n int) (picture, map[int]int) {
	p := packed(lanes)
	m := needed(p)
	var log []api.Entry
	for i := range 16 {
		log = append(log, api.Entry{At: rootAt(i % 8), X: p.words[rootAt(i%8)]})
		delete(m, rootAt(i%8))
	}
	for a := range 8 {
		m[a] = 1
	}
	p.words[rootAt(0)] = 3
	written(p.words, n, log...)
	m[laneAt(n)] = 1
	for a := entryAt(n, 0); a < laneAt(n)+40; a++ {
		m[a] = 1
	}
	return p, m
}

// loadsInOrder checks which word each load is of: if a word is another one while one load is done, and then what it was, the region is told as corrupt just if it is that load's.
func loadsInOrder(t *testing.T, p picture, needed map[int]int) {
	t.Helper()
	for k := range total(p.g) {
		for a := range needed {
			r := pmem.Of(p.words)
			x := begun(r, r.Size(), k)
			r.Store(a, p.words[a]^full)
			if x.Step() != env.Stepped {
				t.Fatalf("no load %d", k)
			}
			r.Store(a, p.words[a])
			x.All(-1)
			want := api.OK
			if a == k {
				want = api.ErrCorrupt
			}
			told(t, []any{"load", k, "with turned", a}, x, want)
		}
	}
}

// All words are loaded, by rising addresses, each once.
func TestP20_1LoadsInOrder(t *testing.T) {
	p := packed(1)
	loadsInOrder(t, p, needed(p))
	q, m := packedByLog(2, 1)
	loadsInOrder(t, q, m)
	q, m = packedByLog(1, 0)
	loadsInOrder(t, q, m)
}

// What was loaded is what counts, though it turns behind that: the fixes are of what was loaded.
func TestP20_1LoadedOnce(t *testing.T) {
	p := scene()
	for _, a := range []int{0, 7, rootAt(0), headAt(p.g, 0), mapAt(p.g, 5), p.at(0, 0), p.at(0, 0) + 1, p.at(5, 1) + 4, total(p.g) - 1} {
		r := pmem.Of(p.words)
		x := begun(r, r.Size(), a+1)
		r.Store(a, full)
		x.All(-1)
		told(t, a, x, api.OK)
		want := sound().with(api.Entry{At: a, X: full})
		for _, fix := range sceneFixes() {
			want.words[fix.At] = fix.X
		}
		if at := differ(r.Seen(), want.words); at >= 0 {
			t.Fatalf("%d turned: other at %d", a, at)
		}
	}
}

// What programs see is loaded, also if it isn't kept yet.
func TestP20_1LoadsSeen(t *testing.T) {
	p := scene()
	r := pmem.New(len(p.words))
	for a, x := range p.words {
		r.Store(a, x)
	}
	x := begun(r, r.Size(), -1)
	told(t, "seen", x, api.OK)
	if a := differ(r.Seen(), sound().words); a >= 0 {
		t.Error(a)
	}
	for _, fix := range sceneFixes() {
		if r.Dirty(fix.At) {
			t.Error(fix)
		}
	}
}

// Sizes that aren't the region's: as many words as there are of that size are loaded, what isn't there as 0, and the region is told as corrupt.
func TestP20_1OtherSizes(t *testing.T) {
	for _, p := range []picture{drawn(1, 1, of(free)), scene(), packed(4), crowded(1, layouts()[0])} {
		n := total(p.g)
		for _, size := range []int{-1 << 63, -1 << 32, -n, -8, -1, 0, 1, 7, 8, 9, 16, n / 2, n - 64, n - 8, n - 1, n + 1, n + 7, n + 8, n + 64, n + 72, 2 * n, 16383, 16384} {
			r := pmem.Of(p.words)
			x := begun(r, size, -1)
			told(t, size, x, api.ErrCorrupt)
			if x.Steps() != max(size, 0) || r.Steps() != int64(max(0, min(size, n))) {
				t.Fatalf("%d: %d steps, %d of the region", size, x.Steps(), r.Steps())
			}
			settled(t, size, r, p.words)
		}
	}
}

// Sizes that no region has, up to the greatest numbers: nothing is stored, and it ends within the steps of Bound.
func TestP20_1GreatSizes(t *testing.T) {
	p := scene()
	for _, size := range []int{16385, 16392, 20000, 65536 + total(p.g), 1 << 20} {
		r := pmem.Of(p.words)
		x := begun(r, size, open.Bound(size))
		told(t, size, x, api.ErrCorrupt)
		if x.Steps() < total(p.g) || r.Steps() != int64(total(p.g)) {
			t.Fatalf("%d: %d steps, %d of the region", size, x.Steps(), r.Steps())
		}
		settled(t, size, r, p.words)
	}
	for _, size := range []int{1<<31 - 1, 1 << 31, 1<<32 + total(p.g), 1 << 40, 1 << 62, 1<<63 - 8, 1<<63 - 1} {
		r := pmem.Of(p.words)
		x := begun(r, size, 100)
		if x.Over() || x.Steps() != 100 {
			t.Fatalf("%d: %d steps", size, x.Steps())
		}
		x.All(-1)
		told(t, size, x, api.ErrCorrupt)
		settled(t, size, r, p.words)
	}
}

// A region that has more words than its superblock tells is corrupt by its own size; by that of the superblock it is opened, and what is behind that is left.
func TestP20_1MoreWords(t *testing.T) {
	p := scene()
	for _, more := range []int{8, 64, 72, 1000} {
		d := dice(more)
		var behind []uint64
		for range more {
			behind = append(behind, d.word())
		}
		words := append(p.copied().words, behind...)
		corrupt(t, more, words)
		corrupt(t, more, append(p.copied().words, make([]uint64, more)...))
		r := pmem.Of(words)
		told(t, more, begun(r, total(p.g), -1), api.OK)
		settled(t, more, r, append(sound().words, behind...))
	}
}

// Without a region all words are 0, and there are none.
func TestP20_1NoRegion(t *testing.T) {
	for _, size := range []int{-5, 0, 1, 8, 128, 1328} {
		x := env.New(nil, locks.New(1), 0, open.Deed(size))
		x.All(-1)
		told(t, size, x, api.ErrCorrupt)
		if x.Steps() != max(size, 0) {
			t.Fatalf("%d: %d steps", size, x.Steps())
		}
	}
	corrupt(t, "no words", nil)
	corrupt(t, "zeros", make([]uint64, 128))
}
