package open_test

import (
	"math"
	"slices"
	"testing"

	"trencher/api"
	"trencher/image"
	"trencher/mend"
	"trencher/pmem"
)

// regionOf is a region of these words, opened.
func regionOf(t *testing.T, words []uint64) *pmem.Region {
	t.Helper()
	r := pmem.Of(words)
	told(t, "opened", begun(r, len(words), -1), api.OK)
	return r
}

// noSuperblocks are a picture's words without a superblock that fits: each bit of its words turned; each word another one, with a seal that fits; another geometry's; too few words, too many, and none.
func noSuperblocks(p picture) [][]uint64 {
	l := [][]uint64{nil, {}}
	for a := range 8 {
		for bit := range 64 {
			l = append(l, with(p.words, api.Entry{At: a, X: p.words[a] ^ 1<<bit}))
		}
	}
	for a := range 7 {
		for _, x := range []uint64{0, p.words[a] + 1, p.words[a] - 1, full, 1 << 48} {
			if x == p.words[a] {
				continue
			}
			turned := with(p.words, api.Entry{At: a, X: x})
			turned[7] = seal(turned[:7]...)
			l = append(l, turned)
		}
	}
	for _, g := range everyGeometry() {
		if total(g) != len(p.words) {
			turned := slices.Clone(p.words)
			copy(turned, super(g))
			l = append(l, turned)
		}
	}
	n := len(p.words)
	for _, less := range []int{1, 8, 64, 72, n - 16, n - 8, n - 1} {
		l = append(l, p.words[:n-less], append(slices.Clone(p.words), make([]uint64, less)...))
	}
	return append(l, p.words[8:], slices.Repeat(p.words, 2), make([]uint64, n))
}

// noHeadWords are words that are no head's: the edges, some whose sum fits fields that may not be, and heads' words with a bit turned.
func noHeadWords() []uint64 {
	l := []uint64{1, 2, 3, 4, 77, full, 1 << 31, 1 << 32, 1 << 63}
	for _, x := range []uint64{0, 4, 32, 1 + 4<<2, 1 + 1<<5, 2 + 4<<2, 2 + 4<<2 + 5<<5, 2 + 3<<2 + 1<<5, 3 + 4<<2, 3 + 4<<2 + 4<<5, 1 + 1<<8} {
		l = append(l, x+crc(x)<<32)
	}
	for _, h := range every() {
		for _, bit := range []int{0, 2, 5, 8, 31, 32, 63} {
			l = append(l, headWord(h)^1<<bit)
		}
	}
	return l
}

// anyWords are words that look as if they were by chance, words that are all the same, and such behind the first words of a superblock; of many sizes.
func anyWords() [][]uint64 {
	var l [][]uint64
	d := dice(5)
	for _, n := range []int{8, 16, 24, 56, 64, 120, 128, 136, 200, 248, 672, 1328, 1336, 16384} {
		for _, x := range []uint64{0, 1, 3, full} {
			l = append(l, slices.Repeat([]uint64{x}, n))
		}
		for k := range 4 {
			var words []uint64
			for range n {
				words = append(words, d.word())
			}
			copy(words, super(least)[:2*k])
			l = append(l, words)
		}
	}
	return l
}

// isCorrupt checks that a region of these words can't be mended, and is told as corrupt by as many loads as it has words: nothing of what is seen or kept turned, and no line is pending.
func isCorrupt(t *testing.T, what any, words []uint64) {
	t.Helper()
	if _, code := mend.Mended(words); code != api.ErrCorrupt {
		t.Fatalf("%v: it can be mended", what)
	}
	corrupt(t, what, words)
}

// corruptByStep checks likewise, and that the last steps, one by one, are loads, with nothing behind them.
func corruptByStep(t *testing.T, what any, words []uint64) {
	t.Helper()
	isCorrupt(t, what, words)
	stepsAre(t, what, words, len(words)-2)
}

// Words without a superblock that fits.
func TestP20_3NoSuperblock(t *testing.T) {
	for _, p := range []picture{drawn(1, 1, of(free)), sound()} {
		for i, words := range noSuperblocks(p) {
			if len(words)%8 == 0 && len(words) > 0 {
				isCorrupt(t, []int{i, len(words)}, words)
			}
			if i%97 == 0 && len(words)%8 == 0 && len(words) > 0 {
				corruptByStep(t, i, words)
			}
			corruptSize(t, i, words)
		}
	}
}

// corruptSize checks words of which there may be no region: as the first ones of one that has more.
func corruptSize(t *testing.T, what any, words []uint64) {
	t.Helper()
	r := pmem.Of(append(slices.Clone(words), make([]uint64, 16-len(words)%8)...))
	was := r.Seen()
	x := begun(r, len(words), -1)
	told(t, what, x, api.ErrCorrupt)
	if x.Steps() != len(words) {
		t.Fatalf("%v: %d steps", what, x.Steps())
	}
	settled(t, what, r, was)
}

// Logs that count and write where none may: at each such address, as the only entry, the first of several, and the last of as many as there may be, in the first lane and in the last.
func TestP20_3NoReplay(t *testing.T) {
	p := scene()
	root := api.Entry{At: rootAt(0), X: p.words[rootAt(0)]}
	var l []int
	for a := range total(p.g) + 20 {
		if a < 8 || a >= 8+p.g.Roots && a < headAt(p.g, 0) || a >= headAt(p.g, 0) && a < spanAt(p.g, 0) && a%8 > 1 || a >= total(p.g) {
			l = append(l, a)
		}
	}
	for k, a := range append(l, 16383) {
		x := uint64(0)
		if a < len(p.words) {
			x = p.words[a]
		}
		e := api.Entry{At: a, X: x}
		for i, log := range [][]api.Entry{{e}, {e, root, root}, append(slices.Repeat([]api.Entry{root}, 15), e)} {
			words := slices.Clone(p.words)
			written(words, 0, root)
			written(words, i%2, log...)
			isCorrupt(t, a, words)
			if k%50 == 0 {
				corruptByStep(t, a, words)
			}
		}
	}
}

// A word that is no head's, at each span: as it stands, and by a log alone.
func TestP20_3NoHead(t *testing.T) {
	p := scene()
	for span := range p.g.Spans {
		for i, x := range noHeadWords() {
			e := api.Entry{At: headAt(p.g, span), X: x}
			isCorrupt(t, e, with(p.words, e))
			words := slices.Clone(p.words)
			written(words, i%2, e)
			isCorrupt(t, e, words)
			if i%60 == span {
				corruptByStep(t, e, words)
			}
		}
	}
}

// tower is a picture in which root 1 leads to a chain of so many objects, and the last one's slot is 0; where that is. In span 0 blocks 0 to 3, and spans 2, 3 and 5, are left for something else.
func tower(depth int) (picture, int) {
	// Behind the last large block's first span stands another one's: neither is whole.
	p := drawn(1, 3, join(of(small(1), small(0)), block(2), of(free, small(3)), block(2)[:1], block(3)[2:]))
	at := rootAt(1)
	for i := range depth {
		if i%2 == 0 {
			p.words[at] = uint64(p.lay(1, 31-i, 1, 1))
			at = int(p.words[at]) + 1
		} else {
			p.words[at] = uint64(p.lay(0, 15-i/2, 3, 2))
			at = int(p.words[at]) + 2
		}
	}
	return p, at
}

// A wrong is something that a pointer may not be, with what must be done to a tower that it is so.
type wrong struct {
	what string
	x    func(p picture) int
}

// wrongs are pointers that point nowhere, and such as point to objects that aren't right.
func wrongs() []wrong {
	to := func(span, index, off int) func(p picture) int {
		return func(p picture) int { return p.at(span, index) + off }
	}
	is := func(x int) func(picture) int { return func(picture) int { return x } }
	lay := func(span, index int, first uint64) func(p picture) int {
		return func(p picture) int {
			at := p.lay(span, index, 1, 0)
			p.words[at] = first
			return at
		}
	}
	unset := func(span, index, words int) func(p picture) int {
		return func(p picture) int {
			at := p.lay(span, index, words, 0)
			p.words[mapAt(p.g, span)] &^= 1 << index
			return at
		}
	}
	return []wrong{
		{"inside a block", to(0, 2, 1)}, {"inside the last block", to(5, 3, 15)}, {"inside a large block", to(2, 0, 1)},
		{"a large block's other span", to(2, 0, 64)}, {"a free span", func(p picture) int { return spanAt(p.g, 4) }},
		{"a span that isn't whole", func(p picture) int { return spanAt(p.g, 6) }}, {"another span alone", func(p picture) int { return spanAt(p.g, 7) }},
		{"the superblock", is(1)}, {"a root", is(8)}, {"a lane", is(16)}, {"a head", func(p picture) int { return headAt(p.g, 0) }},
		{"behind the region", func(p picture) int { return total(p.g) }}, {"the greatest number", is(-1)}, {"the least number", is(math.MinInt)},
		{"right by its lowest bits", func(p picture) int { return p.lay(0, 3, 3, 0) + 1<<32 }},
		{"no bit", unset(0, 3, 3)}, {"no bit at the first", unset(0, 0, 3)}, {"no bit at the last", unset(5, 3, 8)}, {"no bit of a large one", unset(2, 0, 64)},
		{"first word 0", lay(0, 3, 0)}, {"first word 0 of a large one", lay(2, 0, 0)}, {"no words", lay(0, 3, firstWord(5, 0, 0))},
		{"more slots than words", lay(0, 3, firstWord(1, 3, 2))}, {"a bit above", lay(0, 3, firstWord(1, 0, 2)+1<<32)}, {"all bits", lay(2, 0, full)},
		{"too few words", lay(0, 3, firstWord(1, 0, 1))}, {"too many words", lay(0, 3, firstWord(1, 0, 4))},
		{"small in a large one", lay(2, 0, firstWord(1, 0, 15))}, {"fewer spans", lay(2, 0, firstWord(1, 0, 63))}, {"more spans", lay(2, 0, firstWord(1, 0, 128))},
	}
}

// Roots and slots, at several depths, that point nowhere, or to objects that aren't right: as they stand, and by a log alone. As garbage they don't matter.
func TestP20_3Wrong(t *testing.T) {
	for depth := range 6 {
		for i, w := range wrongs() {
			p, at := tower(depth)
			x := uint64(w.x(p))
			if code := opens(t, w.what, p.words); code != api.OK {
				t.Fatalf("%d, %s: %d without", depth, w.what, code)
			}
			words := slices.Clone(p.words)
			written(words, 0, api.Entry{At: rootAt(0), X: 0}, api.Entry{At: at, X: x})
			isCorrupt(t, w.what, words)
			p.words[at] = x
			isCorrupt(t, w.what, p.words)
			if i%10 == depth {
				corruptByStep(t, w.what, p.words)
				corruptByStep(t, w.what, words)
			}
			words = slices.Clone(p.words)
			written(words, 0, api.Entry{At: at, X: 1}, api.Entry{At: at, X: 0})
			if code := opens(t, w.what, words); code != api.OK {
				t.Fatalf("%d, %s: %d with a log that mends it", depth, w.what, code)
			}
			if p.words[rootAt(1)] = 0; depth == 0 {
				continue
			}
			if code := opens(t, w.what, p.words); code != api.OK {
				t.Fatalf("%d, %s: %d as garbage", depth, w.what, code)
			}
		}
	}
}

// Whatever is wrong with one thing, all the others that would be mended are left, too: fixes, lanes that count, lanes that don't.
func TestP20_3NothingElse(t *testing.T) {
	p := scene()
	written(p.words, 0, sceneFixes()...)
	p.words[laneAt(1)] = 5
	for _, e := range []api.Entry{{At: 7, X: 0}, {At: rootAt(1), X: uint64(total(p.g) - 1)}, {At: headAt(p.g, 3), X: 3}, {At: mapAt(p.g, 2), X: 0}, {At: p.at(5, 1) + 15, X: 1}} {
		words := with(p.words, e)
		if e.At == mapAt(p.g, 2) {
			// The first lane's log doesn't write that map.
			written(words, 1, api.Entry{At: rootAt(1), X: words[rootAt(0)]})
		}
		corruptByStep(t, e, words)
	}
}

// Arbitrary words.
func TestP20_3AnyWords(t *testing.T) {
	for i, words := range anyWords() {
		isCorrupt(t, []int{i, len(words)}, words)
	}
	for i, heads := range layouts() {
		p := crowded(i, heads)
		d := dice(i)
		for k := range 60 {
			words := slices.Clone(p.words)
			for a := 8; a < len(words); a++ {
				if d.below(1+k*4) == 0 {
					words[a] = d.word() >> d.below(64)
				}
			}
			opens(t, []int{i, k}, words)
		}
	}
}

// Power that fails while a region is found corrupt takes nothing.
func TestP20_3Power(t *testing.T) {
	p := scene().with(api.Entry{At: rootAt(1), X: 5})
	written(p.words, 0, sceneFixes()...)
	for fuse := 0; fuse <= len(p.words)+1; fuse += 7 {
		for _, pick := range picks(1) {
			r := pmem.Of(p.words)
			begun(r, len(p.words), fuse)
			r.Crash(pick())
			settled(t, fuse, r, p.words)
			told(t, fuse, begun(r, len(p.words), -1), api.ErrCorrupt)
		}
	}
}

// Else what is kept behind it is the mended image: whatever power takes then.
func TestP20_3Kept(t *testing.T) {
	for i, heads := range layouts() {
		for k := range 4 {
			p := logged(k, crowded(i*10+k, heads))
			want, code := mend.Mended(p.words)
			if code != api.OK {
				t.Fatal(heads, code)
			}
			for _, pick := range picks(2) {
				r := regionOf(t, p.words)
				r.Crash(pick())
				settled(t, heads, r, want)
				if !mend.Sound(r.Kept()) {
					t.Fatal(heads, "not sound")
				}
				for n, l := range image.Lanes(p.g, r.Kept()) {
					if len(l) > 0 || r.Kept()[laneAt(n)] != 0 {
						t.Fatal(heads, n, "has a log")
					}
				}
			}
		}
	}
}
