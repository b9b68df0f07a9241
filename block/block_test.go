package block_test

import (
	"math"
	"slices"
	"testing"

	"trencher/api"
	"trencher/block"
	"trencher/classes"
)

// No object, and what an address may be of a block, as the document has them.
var (
	none   = api.Object{}
	first  = part{0, 0}
	beside = part{3, 0}
)

// part is what an address is of a block, and which slot or datum.
type part struct{ kind, i int }

// plainClass is the class of an object of so many words, 1 to 255.
func plainClass(words int) int {
	switch {
	case words == 1:
		return 0
	case words <= 3:
		return 1
	case words <= 7:
		return 2
	case words <= 15:
		return 3
	}
	return 4
}

// plainMay tells whether an object may be in a block of its class.
func plainMay(o api.Object) bool {
	if o.Words < 1 || o.Words > 255 {
		return false
	}
	if o.Slots < 0 || o.Slots > o.Words {
		return false
	}
	return o.Refs >= 0 && o.Refs <= 65535
}

// plainWord is the word of an object that may be, or of none, as the document's Words have it.
func plainWord(o api.Object) uint64 {
	return uint64(o.Refs) + 65536*uint64(o.Slots) + 16777216*uint64(o.Words)
}

// plainRead is the object whose word it is, in a block of a class; false, if there is none.
func plainRead(x uint64, class int) (api.Object, bool) {
	if x == 0 {
		return none, true
	}
	if x >= 1<<32 {
		return none, false
	}
	o := api.Object{Refs: int(x % 65536), Slots: int(x / 65536 % 256), Words: int(x / 16777216)}
	if !plainMay(o) || plainClass(o.Words) != class {
		return none, false
	}
	return o, true
}

// parts are what a block's addresses are, from its first word on, laid one behind the other.
func parts(o api.Object) []part {
	l := []part{first}
	for i := range o.Slots {
		l = append(l, part{1, i})
	}
	for i := range o.Words - o.Slots {
		l = append(l, part{2, i})
	}
	return l
}

// partOf is what an address is of a block, as Of tells it.
func partOf(o api.Object, at, a int) part {
	kind, i := block.Of(o, at, a)
	return part{kind, i}
}

// worded checks that an object has a word.
func worded(t *testing.T, o api.Object, x uint64) {
	if got, ok := block.Word(o); got != x || !ok {
		t.Helper()
		t.Fatalf("%v: %x, %t, not %x", o, got, ok, x)
	}
}

// wordless checks that an object has no word, and that a 0 is told beside that.
func wordless(t *testing.T, o api.Object) {
	if x, ok := block.Word(o); x != 0 || ok {
		t.Helper()
		t.Fatalf("%v: %x, %t", o, x, ok)
	}
}

// read checks that a word is read as an object.
func read(t *testing.T, x uint64, class int, o api.Object) {
	if got, e := block.Read(x, class); got != o || e != api.OK {
		t.Helper()
		t.Fatalf("%x, %d: read as %v, %d, not %v", x, class, got, e, o)
	}
}

// refused checks that a word is corrupt, and that a zero object is told beside that.
func refused(t *testing.T, x uint64, class int) {
	if got, e := block.Read(x, class); got != none || e != api.ErrCorrupt {
		t.Helper()
		t.Fatalf("%x, %d: read as %v, %d", x, class, got, e)
	}
}

// asRead checks that a word is read as the object is, whose it is, or is refused, if it is none's.
func asRead(t *testing.T, x uint64, class int) {
	if o, ok := plainRead(x, class); ok {
		read(t, x, class, o)
		return
	}
	refused(t, x, class)
}

// slotAt checks where a slot is.
func slotAt(t *testing.T, o api.Object, at, i, want int) {
	if got := block.Slot(o, at, i); got != want {
		t.Helper()
		t.Fatalf("slot %d of %v at %d: %d, not %d", i, o, at, got, want)
	}
}

// dataAt checks where a datum is.
func dataAt(t *testing.T, o api.Object, at, i, want int) {
	if got := block.Data(o, at, i); got != want {
		t.Helper()
		t.Fatalf("datum %d of %v at %d: %d, not %d", i, o, at, got, want)
	}
}

// is checks what an address is of a block.
func is(t *testing.T, o api.Object, at, a int, want part) {
	if got := partOf(o, at, a); got != want {
		t.Helper()
		t.Fatalf("%d of %v at %d: %v, not %v", a, o, at, got, want)
	}
}

// grown checks the object with n more that point to it.
func grown(t *testing.T, o api.Object, n int) {
	want := o
	want.Refs += n
	if got, ok := block.More(o, n); got != want || !ok {
		t.Helper()
		t.Fatalf("%v with %d more: %v, %t", o, n, got, ok)
	}
}

// stays checks that there is no object with n more that point to it, and that it itself is told beside that.
func stays(t *testing.T, o api.Object, n int) {
	if got, ok := block.More(o, n); got != o || ok {
		t.Helper()
		t.Fatalf("%v with %d more: %v, %t", o, n, got, ok)
	}
}

// shapes yields objects of all sizes, with all counts of slots, that nothing points to.
func shapes(yield func(o api.Object) bool) {
	for words := 1; words <= 255; words++ {
		for slots := range words + 1 {
			if !yield(api.Object{Slots: slots, Words: words}) {
				return
			}
		}
	}
}

// someShapes are objects of the least and the greatest sizes of each class, and some between, with no slot, some, and slots alone.
func someShapes() []api.Object {
	var l []api.Object
	for _, words := range []int{1, 2, 3, 4, 5, 7, 8, 12, 15, 16, 63, 64, 127, 128, 191, 192, 254, 255} {
		slots := []int{0, 1, words / 2, words - 1, words}
		slices.Sort(slots)
		for _, s := range slices.Compact(slots) {
			l = append(l, api.Object{Slots: s, Words: words})
		}
	}
	return l
}

// refs are some counts of how many point to an object.
func refs() []int {
	return []int{0, 1, 2, 127, 128, 255, 256, 257, 32767, 32768, 65279, 65280, 65534, 65535}
}

// numbers are those that something may be asked with: those around the ones that may be, and others of which the lowest bits are the same as theirs.
func numbers() []int {
	l := []int{-1, 0, 1, 2, 3, 4, 5, 7, 8, 15, 16, 64, 127, 128, 254, 255, 256, 257, 511, 512, 32768, 65534, 65535, 65536, 65537, 1 << 17}
	for _, above := range []int{1 << 8, 1 << 16, 1 << 24, 1 << 31, 1 << 32, 1 << 62} {
		for low := range 4 {
			l = append(l, above+low, -above+low)
		}
	}
	return append(l, -2, -3, -255, -256, -65535, -65536, math.MaxInt32, math.MaxInt-256, math.MaxInt-1, math.MaxInt, math.MinInt, math.MinInt+1, math.MinInt+256)
}

// ats are some addresses where a block may begin, the last ones of a region, and the last one of all with room for an object, among them.
func ats(o api.Object) []int {
	return []int{0, 1, 64, 72, 1000, 16384 - 256, 1 << 32, math.MaxInt - o.Words}
}

func TestP9_1Examples(t *testing.T) {
	for _, c := range []struct {
		o     api.Object
		x     uint64
		class int
	}{
		{api.Object{Refs: 2, Slots: 1, Words: 3}, 2 + 1<<16 + 3<<24, 1},
		{api.Object{Words: 1}, 1 << 24, 0},
		{api.Object{Refs: 1, Slots: 1, Words: 1}, 0x01010001, 0},
		{api.Object{Refs: 1, Words: 2}, 0x02000001, 1},
		{api.Object{Refs: 1, Slots: 2, Words: 2}, 0x02020001, 1},
		{api.Object{Refs: 256, Slots: 3, Words: 7}, 0x07030100, 2},
		{api.Object{Refs: 3, Slots: 15, Words: 15}, 0x0f0f0003, 3},
		{api.Object{Refs: 3, Slots: 4, Words: 16}, 0x10040003, 4},
		{api.Object{Refs: 65535, Slots: 255, Words: 255}, 0xffffffff, 4},
		{api.Object{Refs: 65535, Words: 255}, 0xff00ffff, 4},
	} {
		worded(t, c.o, c.x)
		read(t, c.x, c.class, c.o)
	}
}

// No object has the word 0, and 0 is none's in a block of any class.
func TestP9_1None(t *testing.T) {
	worded(t, none, 0)
	for class := -2; class <= 6; class++ {
		read(t, 0, class, none)
	}
	for _, class := range numbers() {
		read(t, 0, class, none)
	}
}

// Each object's word is its fields, and is read as the object in a block of its class, and of no other one.
func TestP9_1EachShape(t *testing.T) {
	for o := range shapes {
		for _, o.Refs = range refs() {
			x := plainWord(o)
			worded(t, o, x)
			for class := -1; class <= 5; class++ {
				if class == plainClass(o.Words) {
					read(t, x, class, o)
				} else {
					refused(t, x, class)
				}
			}
		}
	}
}

func TestP9_1EachRefs(t *testing.T) {
	for _, o := range []api.Object{{Words: 1}, {Slots: 1, Words: 1}, {Slots: 1, Words: 3}, {Words: 255}, {Slots: 255, Words: 255}} {
		for o.Refs = range api.MaxRefs + 1 {
			worded(t, o, plainWord(o))
			read(t, plainWord(o), plainClass(o.Words), o)
		}
	}
}

// What is read of an object's word is the object, in a block of the class that layer 6 tells of it.
func TestP9_1ThereAndBack(t *testing.T) {
	seen := map[uint64]api.Object{}
	for o := range shapes {
		for _, o.Refs = range []int{0, 1, 65535} {
			x, ok := block.Word(o)
			if !ok {
				t.Fatal(o)
			}
			if other, ok := seen[x]; ok {
				t.Fatalf("%v and %v have one word", o, other)
			}
			seen[x] = o
			read(t, x, classes.Of(o.Words), o)
		}
	}
}

// Objects of all numbers, right and wrong, in each field.
func TestP9_1EachNumber(t *testing.T) {
	for _, o := range objects() {
		if o == none || plainMay(o) {
			worded(t, o, plainWord(o))
		} else {
			wordless(t, o)
		}
	}
}

// objects are those of all numbers in each field.
func objects() []api.Object {
	var l []api.Object
	for _, refs := range numbers() {
		for _, slots := range numbers() {
			for _, words := range numbers() {
				l = append(l, api.Object{Refs: refs, Slots: slots, Words: words})
			}
		}
	}
	return l
}

// Without words nothing else is there.
func TestP9_1NoWords(t *testing.T) {
	for _, n := range numbers() {
		if n != 0 {
			wordless(t, api.Object{Refs: n})
			wordless(t, api.Object{Slots: n})
			wordless(t, api.Object{Refs: n, Slots: n})
			wordless(t, api.Object{Refs: n, Slots: -n})
		}
	}
}

func TestP9_1NoSuchWords(t *testing.T) {
	for _, words := range numbers() {
		if words >= 1 && words <= 255 {
			continue
		}
		for _, refs := range refs() {
			wordless(t, api.Object{Refs: refs, Slots: 1, Words: words})
			if words != 0 || refs != 0 {
				wordless(t, api.Object{Refs: refs, Words: words})
			}
		}
		for slots := range 256 {
			if words != 0 || slots != 0 {
				wordless(t, api.Object{Slots: slots, Words: words})
			}
		}
		wordless(t, api.Object{Slots: words, Words: max(words, -words, 1<<9)})
	}
}

func TestP9_1NoSuchSlots(t *testing.T) {
	for words := 1; words <= 255; words++ {
		for slots := words + 1; slots <= 513; slots++ {
			wordless(t, api.Object{Slots: slots, Words: words})
			wordless(t, api.Object{Slots: -slots, Words: words})
		}
		for _, slots := range numbers() {
			if slots < 0 || slots > words {
				wordless(t, api.Object{Slots: slots, Words: words})
				wordless(t, api.Object{Refs: 65535, Slots: slots, Words: words})
			}
		}
	}
}

func TestP9_1NoSuchRefs(t *testing.T) {
	for _, o := range someShapes() {
		for _, o.Refs = range numbers() {
			if o.Refs < 0 || o.Refs > 65535 {
				wordless(t, o)
			}
		}
		for more := range 1000 {
			o.Refs = 65536 + more
			wordless(t, o)
			o.Refs = -1 - more
			wordless(t, o)
		}
	}
}

// Words of all fields for Slots and Words, also such as no object may have.
func TestP9_1ReadFields(t *testing.T) {
	for words := range uint64(256) {
		for slots := range uint64(256) {
			for _, refs := range []uint64{0, 1, 255, 256, 65535} {
				x := words<<24 + slots<<16 + refs
				for class := -1; class <= 5; class++ {
					asRead(t, x, class)
				}
			}
		}
	}
}

// A word whose field for Words is 0 is none's, but 0.
func TestP9_1ReadNoWords(t *testing.T) {
	for class := -2; class <= 6; class++ {
		for slots := range uint64(256) {
			refused(t, slots<<16+1, class)
			refused(t, slots<<16+65535, class)
			if slots != 0 {
				refused(t, slots<<16, class)
			}
		}
		for refs := 1; refs <= 65535; refs++ {
			refused(t, uint64(refs), class)
		}
	}
}

// Classes that aren't the object's, and such as there are none of.
func TestP9_1ReadOtherClass(t *testing.T) {
	for _, o := range someShapes() {
		for _, o.Refs = range []int{0, 1, 65535} {
			right := plainClass(o.Words)
			others := append(numbers(), right+8, right-8, right+256, right-256, right+1<<32, right-1<<32, math.MinInt+right, -right-1)
			for _, class := range others {
				if class != right {
					refused(t, plainWord(o), class)
				}
			}
		}
	}
}

// A bit, or all, above the fields.
func TestP9_1ReadAbove(t *testing.T) {
	for _, o := range someShapes() {
		for _, o.Refs = range []int{0, 2, 65535} {
			x, class := plainWord(o), plainClass(o.Words)
			for bit := 32; bit < 64; bit++ {
				refused(t, x|1<<bit, class)
			}
			refused(t, x|math.MaxUint32<<32, class)
			refused(t, x<<32, class)
			refused(t, x<<32|x, class)
		}
	}
	for class := -1; class <= 5; class++ {
		for bit := 32; bit < 64; bit++ {
			refused(t, 1<<bit, class)
		}
		refused(t, math.MaxUint32<<32, class)
		refused(t, math.MaxUint64, class)
	}
}

// Any words at all.
func TestP9_1ReadMixed(t *testing.T) {
	x := uint64(0x9e3779b97f4a7c15)
	for range 100000 {
		x = x*6364136223846793005 + 1442695040888963407
		y := x ^ x>>29
		for class := -1; class <= 5; class++ {
			asRead(t, y, class)
			asRead(t, y>>32, class)
			asRead(t, y>>31, class)
		}
	}
}

// What was asked ahead of it turns no answer.
func TestP9_1Same(t *testing.T) {
	for _, one := range append(someShapes(), none, api.Object{Refs: 1}, api.Object{Slots: 4, Words: 3}) {
		for _, two := range someShapes() {
			block.Word(one)
			block.Read(plainWord(one)+1<<32, plainClass(two.Words))
			worded(t, two, plainWord(two))
			block.Read(plainWord(one), plainClass(one.Words))
			read(t, plainWord(two), plainClass(two.Words), two)
			refused(t, plainWord(two), -1)
		}
	}
}

func TestP9_2Examples(t *testing.T) {
	o := api.Object{Slots: 1, Words: 3}
	for _, o.Refs = range refs() {
		slotAt(t, o, 64, 0, 65)
		slotAt(t, o, 64, 1, -1)
		slotAt(t, o, 64, -1, -1)
		dataAt(t, o, 64, 0, 66)
		dataAt(t, o, 64, 1, 67)
		dataAt(t, o, 64, 2, -1)
		dataAt(t, o, 64, -1, -1)
		for a, want := range map[int]part{0: {3, 0}, 63: {3, 0}, 64: {0, 0}, 65: {1, 0}, 66: {2, 0}, 67: {2, 1}, 68: {3, 0}, 128: {3, 0}} {
			is(t, o, 64, a, want)
		}
	}
}

// Each slot and datum of each object, and such as are one or a few ahead of them and behind.
func TestP9_2EachSlotAndDatum(t *testing.T) {
	for o := range shapes {
		for _, at := range ats(o) {
			for i := range o.Slots {
				slotAt(t, o, at, i, at+1+i)
			}
			for i := range o.Words - o.Slots {
				dataAt(t, o, at, i, at+1+o.Slots+i)
			}
			for k := range 5 {
				slotAt(t, o, at, -1-k, -1)
				slotAt(t, o, at, o.Slots+k, -1)
				dataAt(t, o, at, -1-k, -1)
				dataAt(t, o, at, o.Words-o.Slots+k, -1)
			}
			// A datum's number from the first of all words on is none.
			slotAt(t, o, at, o.Words, -1)
			dataAt(t, o, at, -o.Slots-1, -1)
		}
	}
}

// Each address of each object's block, and those around it.
func TestP9_2EachAddress(t *testing.T) {
	for o := range shapes {
		for _, at := range []int{64, math.MaxInt - o.Words - 4} {
			l := parts(o)
			for k, want := range l {
				is(t, o, at, at+k, want)
			}
			for k := range 4 {
				is(t, o, at, at-1-k, beside)
				is(t, o, at, at+len(l)+k, beside)
			}
		}
	}
}

// The addresses one ahead of and one behind the block's words, wherever it begins.
func TestP9_2Edges(t *testing.T) {
	for _, o := range someShapes() {
		for _, at := range ats(o) {
			l := parts(o)
			is(t, o, at, at, first)
			is(t, o, at, at+1, l[1])
			is(t, o, at, at+o.Words, l[o.Words])
			is(t, o, at, at-1, beside)
			if at < math.MaxInt-o.Words {
				is(t, o, at, at+o.Words+1, beside)
			}
		}
	}
}

// Words of a block that its object doesn't have are nothing of it.
func TestP9_2Unused(t *testing.T) {
	for o := range shapes {
		size := 64
		if class := plainClass(o.Words); class < 4 {
			size = 2 << class
		}
		for k := o.Words + 1; k < size; k++ {
			is(t, o, 64, 64+k, beside)
		}
	}
}

// How many point to an object turns none of its addresses.
func TestP9_2WhateverRefs(t *testing.T) {
	for _, o := range someShapes() {
		for _, o.Refs = range refs() {
			for k, want := range parts(o) {
				is(t, o, 72, 72+k, want)
			}
			is(t, o, 72, 71, beside)
			is(t, o, 72, 72+1+o.Words, beside)
			for i := range o.Slots {
				slotAt(t, o, 72, i, 73+i)
			}
			slotAt(t, o, 72, o.Slots, -1)
			for i := range o.Words - o.Slots {
				dataAt(t, o, 72, i, 73+o.Slots+i)
			}
			dataAt(t, o, 72, o.Words-o.Slots, -1)
		}
	}
}

// A block without an object has its first word alone.
func TestP9_2None(t *testing.T) {
	for _, at := range ats(none) {
		is(t, none, at, at, first)
		for k := 1; k < 70; k++ {
			is(t, none, at, at-k, beside)
			if at <= math.MaxInt-k {
				is(t, none, at, at+k, beside)
			}
		}
		for _, i := range numbers() {
			slotAt(t, none, at, i, -1)
			dataAt(t, none, at, i, -1)
		}
	}
}

// Slots and data that there aren't, of which the lowest bits, or a sum that wraps round, would be right.
func TestP9_2NoSuchNumber(t *testing.T) {
	for _, o := range someShapes() {
		for _, at := range ats(o) {
			for _, i := range append(numbers(), -at, -at-1, -o.Slots, -o.Words, math.MinInt+o.Slots, math.MinInt+o.Words, math.MaxInt-o.Slots, math.MaxInt-o.Words, math.MaxInt-at, math.MinInt-at) {
				if i < 0 || i >= o.Slots {
					slotAt(t, o, at, i, -1)
				}
				if i < 0 || i >= o.Words-o.Slots {
					dataAt(t, o, at, i, -1)
				}
			}
		}
	}
}

// Addresses far off are nothing of a block, also where their lowest bits, or a difference that wraps round, would be right.
func TestP9_2FarOff(t *testing.T) {
	for _, o := range someShapes() {
		for _, at := range ats(o) {
			for _, off := range numbers() {
				for k := range o.Words + 1 {
					far(t, o, at, off+k)
					far(t, o, at, at^off+k)
					far(t, o, at, at+off+k)
					far(t, o, at, at-off-k)
				}
			}
		}
	}
}

// far checks an address, if it isn't one of the block's own.
func far(t *testing.T, o api.Object, at, a int) {
	if a < at || uint64(a)-uint64(at) > uint64(o.Words) {
		is(t, o, at, a, beside)
	}
}

// Block addresses from which on not all of the object's words have one: those that do are its own, and no other ones are.
func TestP9_2WrapsRound(t *testing.T) {
	for _, o := range someShapes() {
		for left := range o.Words {
			at := math.MaxInt - left
			l := parts(o)
			for k := range left + 1 {
				is(t, o, at, at+k, l[k])
			}
			is(t, o, at, at-1, beside)
			for k := range o.Words + 2 {
				is(t, o, at, math.MinInt+k, beside)
			}
			for k := range left {
				if i := k - o.Slots; i < 0 {
					slotAt(t, o, at, k, at+1+k)
				} else {
					dataAt(t, o, at, i, at+1+k)
				}
			}
			for k := left; k < o.Words; k++ {
				nowhere(t, o, at, k)
			}
		}
	}
}

// nowhere checks that of one of an object's words no address is told.
func nowhere(t *testing.T, o api.Object, at, k int) {
	got := block.Data(o, at, k-o.Slots)
	if k < o.Slots {
		got = block.Slot(o, at, k)
	}
	if got >= 0 {
		t.Helper()
		t.Fatalf("word %d of %v at %d: %d", k, o, at, got)
	}
}

// Block addresses below 0: no address far behind is of such a block, and there are no more slots and data than of others.
func TestP9_2BelowZero(t *testing.T) {
	for _, o := range someShapes() {
		for _, at := range []int{-1, -2, -256, -1 << 32, math.MinInt, math.MinInt + 1, math.MinInt + 255} {
			for k := range 300 {
				for _, a := range []int{math.MaxInt - k, math.MaxInt + at + k, k + 256, at - 1 - k} {
					far(t, o, at, a)
				}
			}
			for _, i := range numbers() {
				if i < 0 || i >= o.Slots {
					slotAt(t, o, at, i, -1)
				}
				if i < 0 || i >= o.Words-o.Slots {
					dataAt(t, o, at, i, -1)
				}
			}
		}
	}
}

// Whatever they are given, the calls end; what is neither a slot nor a datum is told with a 0.
func TestP9_2Whatever(t *testing.T) {
	for _, o := range objects() {
		for _, at := range []int{math.MinInt, -1, 0, 64, math.MaxInt} {
			for _, i := range []int{math.MinInt, -1, 0, 1, 300, math.MaxInt} {
				block.Slot(o, at, i)
				block.Data(o, at, i)
				if p := partOf(o, at, i); p.kind < 0 || p.kind > 3 || p.kind%3 == 0 && p.i != 0 {
					t.Fatalf("%d of %v at %d: %v", i, o, at, p)
				}
			}
		}
	}
}

func TestP9_3Examples(t *testing.T) {
	o := api.Object{Refs: 2, Slots: 1, Words: 3}
	for n, want := range map[int]int{0: 2, 1: 3, -1: 1, -2: 0, 65533: 65535, 100: 102} {
		if got, ok := block.More(o, n); got != (api.Object{Refs: want, Slots: 1, Words: 3}) || !ok {
			t.Errorf("%d: %v, %t", n, got, ok)
		}
	}
	for _, n := range []int{-3, -4, 65534, 65535, 65536, 1 << 16, -1 << 16} {
		stays(t, o, n)
	}
}

// The object stays as it is but for Refs, whatever it is.
func TestP9_3EachShape(t *testing.T) {
	for o := range shapes {
		for _, o.Refs = range refs() {
			for _, n := range []int{0, -o.Refs, api.MaxRefs - o.Refs} {
				grown(t, o, n)
			}
			stays(t, o, -o.Refs-1)
			stays(t, o, api.MaxRefs-o.Refs+1)
		}
	}
}

// From each count of how many point to an object to the least and the greatest one, and one beyond.
func TestP9_3EachRefs(t *testing.T) {
	o := api.Object{Slots: 2, Words: 5}
	for o.Refs = range 65536 {
		for _, n := range []int{0, -o.Refs, 65535 - o.Refs} {
			grown(t, o, n)
		}
		for _, n := range []int{-o.Refs - 1, 65535 - o.Refs + 1} {
			stays(t, o, n)
		}
		if o.Refs > 0 {
			grown(t, o, -1)
			grown(t, o, -o.Refs+1)
		}
		if o.Refs < 65535 {
			grown(t, o, 1)
			grown(t, o, 65535-o.Refs-1)
		}
	}
}

// Each n, of some objects.
func TestP9_3EachNumber(t *testing.T) {
	for _, o := range []api.Object{{Words: 1}, {Refs: 1, Words: 1}, {Refs: 2, Slots: 1, Words: 3}, {Refs: 32768, Slots: 255, Words: 255}, {Refs: 65534, Words: 255}, {Refs: 65535, Slots: 16, Words: 16}} {
		for n := -140000; n <= 140000; n++ {
			if n < -o.Refs || n > 65535-o.Refs {
				stays(t, o, n)
			} else {
				grown(t, o, n)
			}
		}
	}
}

// Numbers far above and below, also such as wrap round, or of which the lowest bits alone would be right.
func TestP9_3Far(t *testing.T) {
	for _, o := range someShapes() {
		for _, o.Refs = range refs() {
			for _, n := range append(numbers(), math.MaxInt-o.Refs, math.MaxInt-o.Refs+1, math.MinInt+o.Refs, math.MinInt-o.Refs, 1<<16-o.Refs, 1<<32-o.Refs, -1<<32-o.Refs, 1<<62-o.Refs) {
				if n < -o.Refs || n > 65535-o.Refs {
					stays(t, o, n)
				} else {
					grown(t, o, n)
				}
			}
		}
	}
}

// What n more and n fewer are is the object that was.
func TestP9_3ThereAndBack(t *testing.T) {
	for _, o := range someShapes() {
		for _, o.Refs = range refs() {
			for _, n := range numbers() {
				more, ok := block.More(o, n)
				if !ok {
					continue
				}
				if back, ok := block.More(more, -n); back != o || !ok {
					t.Fatalf("%v with %d more and fewer: %v, %t", o, n, back, ok)
				}
			}
		}
	}
}

// An object that more point to has the word that tells so.
func TestP9_3Word(t *testing.T) {
	for _, o := range someShapes() {
		x := plainWord(o)
		for n := range 65536 {
			more, _ := block.More(o, n)
			worded(t, more, x+uint64(n))
		}
	}
}

// Objects that may not be, too: no sum that wraps round is one that may be.
func TestP9_3Whatever(t *testing.T) {
	for _, o := range objects() {
		for _, n := range []int{math.MinInt, math.MinInt + 1, -1, 0, 1, 65535, math.MaxInt - 1, math.MaxInt} {
			got, ok := block.More(o, n)
			if !ok && got != o {
				t.Fatalf("%v with %d more: %v, %t", o, n, got, ok)
			}
			if ok && (got.Refs < 0 || got.Refs > 65535 || got.Refs-o.Refs != n || (got.Refs >= o.Refs) != (n >= 0)) {
				t.Fatalf("%v with %d more: %v", o, n, got)
			}
		}
	}
}

// told are all addresses of slots and data of an object, as they are told from 0 on.
func told(o api.Object, at int) []int {
	var l []int
	for i := 0; block.Slot(o, at, i) != -1; i++ {
		l = append(l, block.Slot(o, at, i))
	}
	for i := 0; block.Data(o, at, i) != -1; i++ {
		l = append(l, block.Data(o, at, i))
	}
	return l
}

// All words of an object have an address that is told, each once, behind the first word.
func TestP9_4Each(t *testing.T) {
	for o := range shapes {
		for _, at := range ats(o) {
			l := told(o, at)
			slices.Sort(l)
			if len(l) != o.Words {
				t.Fatalf("%v at %d: %d addresses", o, at, len(l))
			}
			for k, a := range l {
				if a != at+1+k {
					t.Fatalf("%v at %d: %v", o, at, l)
				}
			}
		}
	}
}

// Slots are ahead of data, each behind the one ahead of it.
func TestP9_4Rising(t *testing.T) {
	for o := range shapes {
		if l := told(o, 64); !slices.IsSorted(l) || len(l) != o.Words {
			t.Fatalf("%v: %v", o, l)
		}
	}
}

// Of tells of each address the slot or datum that has it.
func TestP9_4ThereAndBack(t *testing.T) {
	for o := range shapes {
		for _, at := range []int{0, 64} {
			for i := range o.Slots {
				is(t, o, at, block.Slot(o, at, i), part{1, i})
			}
			for i := range o.Words - o.Slots {
				is(t, o, at, block.Data(o, at, i), part{2, i})
			}
			for a := at + 1; a <= at+o.Words; a++ {
				switch p := partOf(o, at, a); p.kind {
				case 1:
					slotAt(t, o, at, p.i, a)
				case 2:
					dataAt(t, o, at, p.i, a)
				default:
					t.Fatalf("%d of %v at %d: %v", a, o, at, p)
				}
			}
		}
	}
}

// Two objects, one in the block behind the other's, have no address in common.
func TestP9_4Apart(t *testing.T) {
	for words := 1; words <= 15; words++ {
		size := 2 << plainClass(words)
		for slots := range words + 1 {
			o := api.Object{Slots: slots, Words: words}
			for _, a := range told(o, 64) {
				is(t, o, 64+size, a, beside)
				is(t, o, 64-size, a, beside)
			}
		}
	}
}
