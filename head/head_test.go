package head_test

import (
	"hash/crc32"
	"math"
	"slices"
	"testing"

	"trencher/api"
	"trencher/head"
	"trencher/sum"
)

// full is the word whose bits are all 1.
const full = math.MaxUint64

// free is the head of a span that is free.
var free = api.Head{}

// small is the head of a span whose blocks are of a class.
func small(class int) api.Head {
	return api.Head{Kind: 1, Class: class}
}

// large is the head of the first span of a block of so many.
func large(many int) api.Head {
	return api.Head{Kind: 2, Class: 4, Many: many}
}

// more is the head of a span that is so many behind the first one of its block.
func more(many int) api.Head {
	return api.Head{Kind: 3, Class: 4, Many: many}
}

// every has all heads that may be.
func every() []api.Head {
	return []api.Head{
		free,
		small(0), small(1), small(2), small(3),
		large(1), large(2), large(3), large(4),
		more(1), more(2), more(3),
	}
}

// mayBe tells whether a head is one of all those that may be.
func mayBe(h api.Head) bool {
	return slices.Contains(every(), h)
}

// plainSum is a word's sum, by the library's one.
func plainSum(x uint64) uint64 {
	var b [8]byte
	for i := range b {
		b[i] = byte(x % 256)
		x /= 256
	}
	return uint64(crc32.ChecksumIEEE(b[:]))
}

// fitted is the word that has the lower half of x, and above it the sum that fits.
func fitted(x uint64) uint64 {
	x %= 1 << 32
	return x + plainSum(x)<<32
}

// low is a head's fields, one above the other.
func low(h api.Head) uint64 {
	return uint64(h.Kind) + 4*uint64(h.Class) + 32*uint64(h.Many)
}

// plainWord is the word of a head that may be, as the document's Words have it.
func plainWord(h api.Head) uint64 {
	if h == free {
		return 0
	}
	return fitted(low(h))
}

// plainRead is the head whose word it is, sought among all that may be; false, if there is none.
func plainRead(x uint64) (api.Head, bool) {
	for _, h := range every() {
		if plainWord(h) == x {
			return h, true
		}
	}
	return api.Head{}, false
}

// plainRun tells whether heads fit: none do, and those do whose first block is taken away whole, if the rest does.
func plainRun(heads []api.Head) bool {
	if len(heads) == 0 {
		return true
	}
	block := []api.Head{heads[0]}
	switch heads[0].Kind {
	case 2:
		for k := 1; k < heads[0].Many; k++ {
			block = append(block, more(k))
		}
	case 3:
		return false
	}
	n := len(block)
	return len(heads) >= n && slices.Equal(heads[:n], block) && plainRun(heads[n:])
}

// plainFirst is the first span of the block that a span is of, found from the list's beginning on.
func plainFirst(heads []api.Head, i int) int {
	for k, h := range heads {
		if k != i {
			continue
		}
		if h.Kind == 2 {
			return k
		}
		if h.Kind == 3 && k-h.Many >= 0 {
			return k - h.Many
		}
	}
	return -1
}

// read checks that a word is read as a head.
func read(t *testing.T, x uint64, h api.Head) {
	t.Helper()
	if got, e := head.Read(x); got != h || e != api.OK {
		t.Fatalf("%x, of %v: read as %v, %d", x, h, got, e)
	}
}

// refused checks that a word is corrupt, and that a zero head is told beside that.
func refused(t *testing.T, x uint64) {
	t.Helper()
	if got, e := head.Read(x); got != (api.Head{}) || e != api.ErrCorrupt {
		t.Fatalf("%x: read as %v, %d", x, got, e)
	}
}

// asRead checks that a word is read as the head is, whose it is, or is refused, if it is none's.
func asRead(t *testing.T, x uint64) {
	t.Helper()
	if h, ok := plainRead(x); ok {
		read(t, x, h)
		return
	}
	refused(t, x)
}

// noWord checks that a head has no word, and that a 0 is told beside that.
func noWord(t *testing.T, h api.Head) {
	t.Helper()
	if x, ok := head.Word(h); x != 0 || ok {
		t.Fatalf("%v: %x, %t", h, x, ok)
	}
}

// runs checks whether heads fit, by the plain model.
func runs(t *testing.T, heads []api.Head) {
	t.Helper()
	if got, want := head.Run(heads), plainRun(heads); got != want {
		t.Fatalf("%v: %t, not %t", heads, got, want)
	}
}

// firsts checks which spans are first ones, of each span of the list, and of some around it.
func firsts(t *testing.T, heads []api.Head) {
	t.Helper()
	for i := -3; i < len(heads)+3; i++ {
		if got, want := head.First(heads, i), plainFirst(heads, i); got != want {
			t.Fatalf("%v, %d: %d, not %d", heads, i, got, want)
		}
	}
}

// lists yields each list of so many heads of those.
func lists(of []api.Head, many int, yield func(heads []api.Head)) {
	heads := make([]api.Head, many)
	var fill func(at int)
	fill = func(at int) {
		if at == many {
			yield(heads)
			return
		}
		for _, h := range of {
			heads[at] = h
			fill(at + 1)
		}
	}
	fill(0)
}

// blocks are the heads of one span, or of one block's spans, of each kind that there may be.
func blocks() [][]api.Head {
	return [][]api.Head{
		{free}, {small(0)}, {small(1)}, {small(2)}, {small(3)},
		{large(1)},
		{large(2), more(1)},
		{large(3), more(1), more(2)},
		{large(4), more(1), more(2), more(3)},
	}
}

// fitting yields all lists of spans that are whole blocks, one behind the other, of so many spans at most.
func fitting(many int, yield func(heads []api.Head)) {
	var lay func(heads []api.Head)
	lay = func(heads []api.Head) {
		yield(slices.Clone(heads))
		for _, b := range blocks() {
			if len(heads)+len(b) <= many {
				lay(append(slices.Clip(heads), b...))
			}
		}
	}
	lay(nil)
}

// numbers are those that a field of a head may be asked with: those around the ones that may be, and others of which the lowest bits are the same as theirs.
func numbers() []int {
	l := []int{-1, 0, 1, 2, 3, 4, 5, 6, 7, 8, 9, 10, 11, 12, 16, 32, 64, 128, 255}
	for _, above := range []int{1 << 8, 1 << 16, 1 << 31, 1 << 32, 1 << 62} {
		for low := range 5 {
			l = append(l, above+low, -above+low)
		}
	}
	return append(l, -2, -3, -4, -5, math.MaxInt32, math.MaxInt-1, math.MaxInt, math.MinInt, math.MinInt+1, math.MinInt+4)
}

// oddHeads are heads that may not be, of numbers far from those that may.
func oddHeads() []api.Head {
	var l []api.Head
	for kind := -1; kind <= 4; kind++ {
		for _, class := range []int{-1, 0, 3, 4, 5, math.MaxInt, math.MinInt} {
			for _, many := range []int{-1, 0, 1, 2, 4, 5, math.MaxInt, math.MinInt, math.MinInt + 1} {
				if h := (api.Head{Kind: kind, Class: class, Many: many}); !mayBe(h) {
					l = append(l, h)
				}
			}
		}
	}
	return append(l, api.Head{Kind: math.MaxInt}, api.Head{Kind: math.MinInt})
}

func TestP8_1Examples(t *testing.T) {
	for _, c := range []struct {
		h   api.Head
		low uint64
	}{{small(0), 1}, {small(1), 5}, {small(2), 9}, {small(3), 13}, {large(1), 0x32}, {large(2), 0x52}, {large(3), 0x72}, {large(4), 0x92}, {more(1), 0x33}, {more(2), 0x53}, {more(3), 0x73}} {
		if x, ok := head.Word(c.h); !ok || x != c.low|uint64(sum.Of(c.low))<<32 {
			t.Errorf("%v: %x, %t", c.h, x, ok)
		}
	}
	if x, ok := head.Word(api.Head{}); x != 0 || !ok {
		t.Errorf("free: %x, %t", x, ok)
	}
}

func TestP8_1EachHead(t *testing.T) {
	for _, h := range every() {
		want := plainWord(h)
		if x, ok := head.Word(h); x != want || !ok {
			t.Fatalf("%v: %x, %t, not %x", h, x, ok, want)
		}
		read(t, want, h)
	}
}

// The numbers that heads are made of are api's.
func TestP8_1Names(t *testing.T) {
	for want, h := range map[api.Head]api.Head{
		free:     {Kind: api.SpanFree},
		small(0): {Kind: api.SpanSmall},
		small(3): {Kind: api.SpanSmall, Class: api.Large - 1},
		large(1): {Kind: api.SpanLarge, Class: api.Large, Many: 1},
		large(4): {Kind: api.SpanLarge, Class: api.Large, Many: api.MaxLarge},
		more(1):  {Kind: api.SpanMore, Class: api.Large, Many: 1},
		more(3):  {Kind: api.SpanMore, Class: api.Large, Many: api.MaxLarge - 1},
	} {
		if x, ok := head.Word(h); x != plainWord(want) || !ok {
			t.Errorf("%v: %x, %t", h, x, ok)
		}
	}
}

// Heads of all numbers, right and wrong, in each field.
func TestP8_1EachNumber(t *testing.T) {
	may := 0
	for _, kind := range numbers() {
		for _, class := range numbers() {
			for _, many := range numbers() {
				h := api.Head{Kind: kind, Class: class, Many: many}
				if !mayBe(h) {
					noWord(t, h)
					continue
				}
				may++
				if x, ok := head.Word(h); x != plainWord(h) || !ok {
					t.Fatalf("%v: %x, %t", h, x, ok)
				}
			}
		}
	}
	if may != len(every()) {
		t.Fatal(may)
	}
}

func TestP8_1NoSuchKind(t *testing.T) {
	for _, kind := range numbers() {
		if kind >= 0 && kind <= 3 {
			continue
		}
		for _, h := range every() {
			noWord(t, api.Head{Kind: kind, Class: h.Class, Many: h.Many})
		}
	}
}

// Of free ones both others are 0.
func TestP8_1NoSuchFree(t *testing.T) {
	for _, n := range numbers() {
		if n != 0 {
			noWord(t, api.Head{Class: n})
			noWord(t, api.Head{Many: n})
			noWord(t, api.Head{Class: n, Many: n})
			noWord(t, api.Head{Class: n, Many: -n})
		}
	}
}

// Of small ones the class is none of spans that are taken whole, and there is no Many.
func TestP8_1NoSuchSmall(t *testing.T) {
	for _, n := range numbers() {
		if n < 0 || n > 3 {
			noWord(t, small(n))
		}
		for class := range 5 {
			if n != 0 {
				noWord(t, api.Head{Kind: 1, Class: class, Many: n})
			}
		}
	}
}

// Of large ones and more ones the class is Large, and there is a Many.
func TestP8_1NoSuchWhole(t *testing.T) {
	for _, n := range numbers() {
		for many := range 5 {
			if n != 4 {
				noWord(t, api.Head{Kind: 2, Class: n, Many: many})
				noWord(t, api.Head{Kind: 3, Class: n, Many: many})
			}
		}
		if n < 1 || n > 4 {
			noWord(t, large(n))
		}
		if n < 1 || n > 3 {
			noWord(t, more(n))
		}
	}
}

// Words of any kind, class and Many, with a sum that fits.
func TestP8_1ReadFields(t *testing.T) {
	right := 0
	for kind := range uint64(4) {
		for class := range uint64(8) {
			for many := range uint64(8) {
				x := fitted(kind + 4*class + 32*many)
				asRead(t, x)
				if _, ok := plainRead(x); ok {
					right++
				}
			}
		}
	}
	// All but the free one, which has no sum.
	if right != len(every())-1 {
		t.Fatal(right)
	}
}

// Numbers that are read lie in their own fields: no word of another head is read.
func TestP8_1ReadLow(t *testing.T) {
	for x := range uint64(1 << 16) {
		asRead(t, fitted(x))
		asRead(t, x)
	}
}

// A bit, or several, where the zeros stand, with the sum that fits them, and with the one that fits the rest.
func TestP8_1ReadZeros(t *testing.T) {
	for _, h := range every() {
		x := plainWord(h)
		for bit := 8; bit < 32; bit++ {
			for _, zeros := range []uint64{1 << bit, 1<<32 - 1<<bit, 1<<(bit+1) - 1<<8} {
				refused(t, fitted(low(h)+zeros))
				refused(t, x+zeros)
			}
			for other := 8; other < bit; other++ {
				refused(t, fitted(low(h)+1<<bit+1<<other))
			}
		}
	}
}

// Other sums than the one that fits: with bits turned, of other words, in another order of its bytes, or of more than the fields.
func TestP8_1ReadSum(t *testing.T) {
	for _, h := range every() {
		word := plainWord(h)
		s := word >> 32
		others := []uint64{0, 1, s + 1, s - 1, ^s, -s, s << 8, s >> 8, s << 16, s >> 16, s<<24 | s>>8&0xff<<16 | s>>16&0xff<<8 | s>>24, low(h), plainSum(word), plainSum(s), plainSum(low(h) << 32), 1<<32 - 1, 1 << 31}
		for x := range uint64(256) {
			others = append(others, plainSum(x))
		}
		for bit := range 32 {
			others = append(others, s^1<<bit)
		}
		for _, other := range others {
			if other %= 1 << 32; other != s {
				refused(t, low(h)+other<<32)
			}
		}
	}
}

// Of a head that is free the word is 0: no other one is, with a sum that fits or without.
func TestP8_1ReadFree(t *testing.T) {
	read(t, 0, free)
	refused(t, fitted(0))
	for _, many := range []uint64{1, 2, 3, 4, 5, 255, 256, 1 << 16, 1<<24 - 1} {
		refused(t, many<<8)
		refused(t, fitted(many<<8))
	}
	for bit := range 64 {
		refused(t, 1<<bit)
		refused(t, fitted(0)^1<<bit)
	}
	for at := 4; at < 32; at += 4 {
		refused(t, 15<<(at+32))
	}
	refused(t, full)
	refused(t, full&^math.MaxUint32)
	refused(t, full>>32)
	refused(t, fitted(full))
}

// Any words at all.
func TestP8_1ReadMixed(t *testing.T) {
	x := uint64(0x9e3779b97f4a7c15)
	for range 100000 {
		x = x*6364136223846793005 + 1442695040888963407
		asRead(t, x^x>>29)
		asRead(t, fitted(x>>17))
		asRead(t, fitted(x>>40))
	}
}

// What was asked ahead of it turns no answer.
func TestP8_1Same(t *testing.T) {
	for _, one := range every() {
		for _, two := range every() {
			head.Word(one)
			head.Word(api.Head{Kind: one.Kind, Class: one.Class + 5, Many: one.Many})
			head.Read(plainWord(one) ^ 1)
			read(t, plainWord(two), two)
			if x, ok := head.Word(two); x != plainWord(two) || !ok {
				t.Fatalf("%v behind %v: %x, %t", two, one, x, ok)
			}
			refused(t, plainWord(two)^1<<63)
		}
	}
}

func TestP8_2RunExamples(t *testing.T) {
	for _, c := range []struct {
		heads []api.Head
		fits  bool
	}{
		{nil, true},
		{[]api.Head{}, true},
		{[]api.Head{large(2), more(1)}, true},
		{[]api.Head{large(2), free}, false},
		{[]api.Head{large(2), small(0)}, false},
		{[]api.Head{large(2), large(1)}, false},
		{[]api.Head{large(2), large(2), more(1), more(1)}, false},
		{[]api.Head{large(1)}, true},
		{[]api.Head{large(1), large(1)}, true},
		{[]api.Head{large(1), more(1)}, false},
		{[]api.Head{large(4), more(1), more(2), more(3)}, true},
		{[]api.Head{large(4), more(1), more(2), more(3), large(4), more(1), more(2), more(3)}, true},
		{[]api.Head{large(4), more(1), more(2), more(3), more(1)}, false},
		{[]api.Head{large(4), more(1), more(2), more(2)}, false},
		{[]api.Head{large(4), more(1), more(2)}, false},
		{[]api.Head{large(4)}, false},
		{[]api.Head{large(4), more(3), more(2), more(1)}, false},
		{[]api.Head{more(1), large(2)}, false},
		{[]api.Head{more(1)}, false},
		{[]api.Head{free, more(1)}, false},
		{[]api.Head{small(0), more(1)}, false},
		{[]api.Head{large(2), more(1), free, more(1)}, false},
		{[]api.Head{large(2), free, more(1)}, false},
		{[]api.Head{large(3), more(1), small(2), more(2)}, false},
		{[]api.Head{free, small(0), small(1), small(2), small(3), free}, true},
	} {
		if got := head.Run(c.heads); got != c.fits {
			t.Errorf("%v: %t", c.heads, got)
		}
		runs(t, c.heads)
	}
}

// Each list of a few heads that may be.
func TestP8_2RunEachList(t *testing.T) {
	for many := range 6 {
		lists(every(), many, func(heads []api.Head) { runs(t, heads) })
	}
}

// Each longer list of heads that may be the others of a block, or are none.
func TestP8_2RunLonger(t *testing.T) {
	of := []api.Head{small(1), large(3), large(4), more(1), more(2), more(3)}
	for _, many := range []int{6, 7} {
		lists(of, many, func(heads []api.Head) { runs(t, heads) })
	}
}

// Whole blocks one behind the other fit, whatever ends at the last span; what ends within a block doesn't.
func TestP8_2RunBlocks(t *testing.T) {
	fitting(5, func(heads []api.Head) {
		if !head.Run(heads) {
			t.Fatalf("%v doesn't fit", heads)
		}
		for _, b := range blocks() {
			for n := 1; n < len(b); n++ {
				if cut := append(slices.Clip(heads), b[:n]...); head.Run(cut) {
					t.Fatalf("%v fits, and ends within a block", cut)
				}
				if cut := append(slices.Clip(heads), b[n:]...); head.Run(cut) {
					t.Fatalf("%v fits, and has a part of a block that doesn't begin", cut)
				}
			}
		}
	})
}

// longest are as many spans as a region has at most, of blocks of each kind.
func longest() []api.Head {
	var l []api.Head
	for _, b := range blocks() {
		l = append(l, b...)
	}
	return append(l, small(1))
}

// A list as long as a region's, with any one head turned into any other one.
func TestP8_2RunOneWrong(t *testing.T) {
	heads := longest()
	if len(heads) != api.MaxSpans || !head.Run(heads) {
		t.Fatal(heads)
	}
	for i, was := range heads {
		for _, h := range every() {
			heads[i] = h
			runs(t, heads)
		}
		heads[i] = was
	}
	for n := range len(heads) {
		runs(t, heads[:n])
		runs(t, heads[n:])
	}
}

// Lists longer than a region's are gone through to their end.
func TestP8_2RunLong(t *testing.T) {
	heads := slices.Repeat([]api.Head{large(4), more(1), more(2), more(3), free}, 20000)
	if !head.Run(heads) {
		t.Error("whole blocks don't fit")
	}
	for _, n := range []int{1, 2, 3} {
		if head.Run(heads[:len(heads)-1-n]) {
			t.Error("a block that isn't whole at the end fits:", n)
		}
	}
	heads[len(heads)-1] = more(4)
	if head.Run(heads) {
		t.Error("a span at the end that is of no block fits")
	}
}

func TestP8_2FirstExamples(t *testing.T) {
	heads := []api.Head{small(0), large(3), more(1), more(2), free, large(1), large(4), more(1), more(2), more(3)}
	for i, want := range []int{-1, 1, 1, 1, -1, 5, 6, 6, 6, 6} {
		if got := head.First(heads, i); got != want {
			t.Errorf("%d: %d", i, got)
		}
	}
	firsts(t, heads)
}

// Each span of each list of a few heads, and spans around it.
func TestP8_2FirstEachList(t *testing.T) {
	for many := range 5 {
		lists(every(), many, func(heads []api.Head) { firsts(t, heads) })
	}
}

// Of each span of a list that fits the first one is a large one, of whose block it is.
func TestP8_2FirstBlocks(t *testing.T) {
	fitting(5, func(heads []api.Head) {
		for i, h := range heads {
			first := head.First(heads, i)
			if h.Kind != 2 && h.Kind != 3 {
				if first != -1 {
					t.Fatalf("%v, %d: %d", heads, i, first)
				}
				continue
			}
			if first < 0 || first > i || heads[first].Kind != 2 || i-first >= heads[first].Many || h.Kind == 2 && first != i {
				t.Fatalf("%v, %d: %d", heads, i, first)
			}
		}
		firsts(t, heads)
	})
}

// The span that is as many ahead is the first one, whatever stands there, or between.
func TestP8_2FirstWhatever(t *testing.T) {
	for _, there := range every() {
		for _, between := range every() {
			for many := 1; many <= 3; many++ {
				for ahead := range 4 {
					heads := append(slices.Repeat([]api.Head{between}, ahead), there)
					heads = append(heads, slices.Repeat([]api.Head{between}, many-1)...)
					heads = append(heads, more(many), between)
					if got := head.First(heads, ahead+many); got != ahead {
						t.Fatalf("%v: %d, not %d", heads, got, ahead)
					}
				}
			}
		}
	}
}

// Spans of lists longer than a region's have their first ones, too.
func TestP8_2FirstLong(t *testing.T) {
	heads := slices.Repeat([]api.Head{large(4), more(1), more(2), more(3), free}, 20000)
	for i := range heads {
		want := i - i%5
		if i%5 == 4 {
			want = -1
		}
		if got := head.First(heads, i); got != want {
			t.Fatalf("%d: %d, not %d", i, got, want)
		}
	}
}

// More ones that are more than the spans ahead of them.
func TestP8_2FirstTooFar(t *testing.T) {
	for many := 1; many <= 3; many++ {
		for at := range many {
			for _, ahead := range every() {
				heads := append(slices.Repeat([]api.Head{ahead}, at), more(many), ahead)
				if got := head.First(heads, at); got != -1 {
					t.Fatalf("%v, %d: %d", heads, at, got)
				}
			}
		}
	}
}

// A Many that there is none of, and of which the lowest bits alone would be right.
func TestP8_2FirstFarTooFar(t *testing.T) {
	heads := slices.Repeat([]api.Head{large(4)}, 16)
	for _, many := range numbers() {
		if many < len(heads) {
			continue
		}
		for i := range heads {
			heads[i] = more(many)
			if got := head.First(heads, i); got != -1 {
				t.Fatalf("%v, %d: %d", heads, i, got)
			}
			heads[i] = large(4)
		}
	}
}

// Spans that there aren't, also such that would be right counted from another number on.
func TestP8_2FirstNoSuchSpan(t *testing.T) {
	for _, heads := range [][]api.Head{nil, {}, {free}, {large(1)}, {large(2), more(1)}, longest(), slices.Repeat([]api.Head{large(1)}, 16), slices.Repeat([]api.Head{large(1)}, 300)[:16]} {
		n := len(heads)
		for _, i := range append(numbers(), n, n+1, 2*n, -n, -n-1, n+1<<32, -1<<32, math.MaxInt-n, math.MinInt+n) {
			if i >= 0 && i < n {
				continue
			}
			if got := head.First(heads, i); got != -1 {
				t.Fatalf("%v, %d: %d", heads, i, got)
			}
		}
	}
}

// Both end, whatever heads they are given.
func TestP8_2OddHeads(t *testing.T) {
	for _, h := range oddHeads() {
		for at := range 5 {
			for _, others := range every() {
				heads := slices.Repeat([]api.Head{others}, 5)
				heads[at] = h
				head.Run(heads)
				head.First(heads, at)
			}
		}
		heads := slices.Repeat([]api.Head{h}, 3)
		head.Run(heads)
		for i := -1; i < 4; i++ {
			head.First(heads, i)
		}
	}
}

// The heads that are handed in stay as they are, the room behind them too.
func TestP8_2Unchanged(t *testing.T) {
	long := append(longest(), longest()...)
	for wrong := range long {
		long[wrong].Many++
		was := slices.Clone(long)
		for n := range len(long) + 1 {
			head.Run(long[:n])
			for i := -1; i <= n; i++ {
				head.First(long[:n], i)
			}
			if !slices.Equal(long, was) {
				t.Fatal("heads that were handed in have changed")
			}
		}
		long[wrong].Many--
	}
}

// What stands in the room behind the heads doesn't matter.
func TestP8_2Room(t *testing.T) {
	heads := longest()
	for n := range len(heads) + 1 {
		runs(t, heads[:n])
		runs(t, slices.Clone(heads[:n]))
		firsts(t, heads[:n])
		firsts(t, slices.Clone(heads[:n]))
	}
}

// What was asked ahead of it turns no answer: neither a list that ends within a block, nor the same list while it was another one.
func TestP8_2Same(t *testing.T) {
	heads := []api.Head{large(4), more(1), more(2), more(3)}
	for range 3 {
		runs(t, heads[:2])
		runs(t, heads[2:])
		runs(t, heads)
		firsts(t, heads)
		heads[0], heads[3] = heads[3], heads[0]
	}
}

// With any one bit turned no head's word is read as the same head; nor is it as another one, as all of them lie further apart.
func TestP8_3EachBit(t *testing.T) {
	for _, h := range every() {
		x, ok := head.Word(h)
		if !ok {
			t.Fatal(h)
		}
		read(t, x, h)
		for bit := range 64 {
			turned := x ^ 1<<bit
			if got, e := head.Read(turned); got == h && e == api.OK {
				t.Fatalf("%v: bit %d turned: read as the same", h, bit)
			}
			asRead(t, turned)
		}
	}
}

// Nor with any two bits turned.
func TestP8_3TwoBits(t *testing.T) {
	for _, h := range every() {
		x := plainWord(h)
		for one := range 64 {
			for two := range one {
				asRead(t, x^1<<one^1<<two)
			}
		}
	}
}

// With a bit of the fields turned and the sum made to fit, another head is read, or none.
func TestP8_3Refitted(t *testing.T) {
	for _, h := range every() {
		for bit := range 32 {
			x := fitted(low(h) ^ 1<<bit)
			if got, e := head.Read(x); got == h && e == api.OK {
				t.Fatalf("%v: bit %d turned: read as the same", h, bit)
			}
			asRead(t, x)
		}
	}
}
