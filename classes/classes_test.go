package classes

import (
	"math"
	"strings"
	"testing"

	"trencher/api"
)

// An edge is a number of words, the class of an object of so many, and how many spans its block takes.
type edge struct{ words, class, spans int }

// edges are the least and the most words of each class, and of a block of each number of spans.
var edges = []edge{
	{1, 0, 0},
	{2, 1, 0}, {3, 1, 0},
	{4, 2, 0}, {7, 2, 0},
	{8, 3, 0}, {15, 3, 0},
	{16, 4, 1}, {63, 4, 1},
	{64, 4, 2}, {127, 4, 2},
	{128, 4, 3}, {191, 4, 3},
	{192, 4, 4}, {255, 4, 4},
}

// sizes has how many words a block has, blocks how many of them a span has, by the classes from 0 to 3.
var (
	sizes  = []int{2, 4, 8, 16}
	blocks = []int{32, 16, 8, 4}
)

// plainNames are the classes' names, in their order.
var plainNames = []string{"tiny", "small", "middle", "wide", "large"}

// noWords are numbers of words of which there is no object, those at the edges first.
func noWords() []int {
	return []int{0, 256, -1, 257, -2, -3, -15, -16, -255, -256, 258, 319, 320, 511, 512, 1000, 1<<8 + 1, 1<<16 + 1, 1 << 31, 1<<32 + 1, 1<<32 + 16, -1 << 31, -1 << 32, 1 - 1<<32, math.MaxInt32, math.MinInt32, math.MaxInt - 1, math.MaxInt, math.MinInt, math.MinInt + 1}
}

// noClasses are numbers that aren't from 0 to 3, those at the edges first.
func noClasses() []int {
	return []int{-1, 4, -2, 5, -3, -4, -5, 6, 7, 8, 16, 32, 61, 62, 63, 64, 65, -62, -63, -64, -65, 255, 1 << 8, 1<<8 + 1, 1 << 16, 1 << 31, 1 << 32, 1<<32 + 1, -1 << 31, -1 << 32, 1 - 1<<32, math.MaxInt32, math.MinInt32, math.MaxInt - 1, math.MaxInt, math.MinInt, math.MinInt + 1}
}

// plainOf is an object's class and how many spans its block takes, of what the document's Words say: by blocks that are tried one behind the other, the least first.
func plainOf(words int) (int, int) {
	if words < 1 || words > 255 {
		return -1, 0
	}
	for class, size := range sizes {
		if words < size {
			return class, 0
		}
	}
	spans := 1
	for words >= 64*spans {
		spans++
	}
	return 4, spans
}

// checkOf holds Of and Spans of a number of words against what they are to be.
func checkOf(t *testing.T, e edge) {
	t.Helper()
	if got := Of(e.words); got != e.class {
		t.Errorf("%d words are of class %d, not %d", e.words, got, e.class)
	}
	if got := Spans(e.words); got != e.spans {
		t.Errorf("%d words take %d spans, not %d", e.words, got, e.spans)
	}
}

func TestP6_1Edges(t *testing.T) {
	for _, e := range edges {
		checkOf(t, e)
	}
}

func TestP6_1EachSize(t *testing.T) {
	for words := -600; words <= 1200; words++ {
		class, spans := plainOf(words)
		checkOf(t, edge{words, class, spans})
	}
}

func TestP6_1NoObject(t *testing.T) {
	for _, words := range noWords() {
		checkOf(t, edge{words, -1, 0})
	}
}

// The document's limits are those of package api.
func TestP6_1Limits(t *testing.T) {
	if Of(api.MaxAsk) != api.Large || Spans(api.MaxAsk) != api.MaxLarge {
		t.Error(Of(api.MaxAsk), Spans(api.MaxAsk))
	}
	checkOf(t, edge{api.MaxAsk + 1, -1, 0})
}

func TestP6_2Small(t *testing.T) {
	for class := range 4 {
		if got := Size(class); got != sizes[class] {
			t.Errorf("blocks of class %d have %d words, not %d", class, got, sizes[class])
		}
		if got := Blocks(class); got != blocks[class] {
			t.Errorf("a span of class %d has %d blocks, not %d", class, got, blocks[class])
		}
	}
}

// A span's blocks take each of its words, and their number fits into a set (a head's bits).
func TestP6_2Whole(t *testing.T) {
	for class := range 4 {
		if n := Blocks(class); n*Size(class) != 64 || n > 64 {
			t.Errorf("a span of class %d has %d blocks of %d words", class, n, Size(class))
		}
	}
}

func TestP6_2Others(t *testing.T) {
	for class := -200; class <= 200; class++ {
		if class >= 0 && class <= 3 {
			continue
		}
		checkNone(t, class)
	}
	for _, class := range noClasses() {
		checkNone(t, class)
	}
	checkNone(t, api.Large)
}

// checkNone holds Size and Blocks of a class that isn't from 0 to 3 against 0.
func checkNone(t *testing.T, class int) {
	t.Helper()
	if size, n := Size(class), Blocks(class); size != 0 || n != 0 {
		t.Errorf("class %d has blocks of %d words, %d a span", class, size, n)
	}
}

func TestP6_3Names(t *testing.T) {
	got := Names()
	if len(got) != len(plainNames) {
		t.Fatal(got)
	}
	for class, name := range plainNames {
		if got[class] != name {
			t.Errorf("class %d is named %q, not %q", class, got[class], name)
		}
	}
}

func TestP6_3By(t *testing.T) {
	for class, name := range plainNames {
		if got := By(name); got != class {
			t.Errorf("%q is class %d, not %d", name, got, class)
		}
		// A text of the same bytes that is another one.
		if got := By(string([]byte(name))); got != class {
			t.Errorf("%q, as bytes, is class %d, not %d", name, got, class)
		}
	}
	for class, name := range Names() {
		if got := By(name); got != class {
			t.Errorf("%q is class %d, not %d", name, got, class)
		}
	}
}

// nearly are texts that differ from a name in a letter, in their case, by a blank, or by being shorter or longer.
func nearly(name string) []string {
	l := []string{strings.ToUpper(name), strings.ToUpper(name[:1]) + name[1:], name + name, name + "s", name + "\x00", "\x00" + name, name + ".", "\"" + name + "\"", name + ","}
	for _, blank := range []string{" ", "\t", "\n", "\r", "\u00a0"} {
		l = append(l, blank+name, name+blank, blank+name+blank)
	}
	for i := range len(name) {
		before, behind := name[:i], name[i+1:]
		l = append(l, before+behind, before+strings.ToUpper(name[i:i+1])+behind, before+" "+name[i:])
		for c := range 256 {
			l = append(l, before+string([]byte{byte(c)})+behind, before+string([]byte{byte(c)})+name[i:])
		}
	}
	for n := range len(name) {
		l = append(l, name[:n], name[n+1:])
	}
	return l
}

func TestP6_3OtherNames(t *testing.T) {
	right := map[string]bool{}
	for _, name := range plainNames {
		right[name] = true
	}
	l := []string{"", " ", "\x00", "0", "1", "4", "-1", "none", "free", "Large", "LARGE", "l\u00e4rge", "tiny small", "tiny,small,middle,wide,large", "tinysmallmiddlewidelarge", "big", "medium", "larg\u0435", strings.Repeat("wide", 100000), "\xff\xfe", "ynit"}
	for _, name := range plainNames {
		l = append(l, nearly(name)...)
	}
	for _, name := range l {
		if right[name] {
			continue
		}
		if got := By(name); got != -1 {
			t.Errorf("%q is class %d", name, got)
		}
	}
}

// What is answered is a copy: who changes it changes no other answer.
func TestP6_3Copied(t *testing.T) {
	first := Names()
	second := Names()
	for class := range first {
		first[class] = "other"
	}
	for class, name := range plainNames {
		if second[class] != name || Names()[class] != name || By(name) != class {
			t.Errorf("class %d: %q, %q, %d", class, second[class], Names()[class], By(name))
		}
	}
	if got := By("other"); got != -1 {
		t.Error(got)
	}
}

// An object of each size has room, with its first word, in a block of its class; in a lesser class's it hasn't.
func TestP6_4Classes(t *testing.T) {
	for words := 1; words <= 255; words++ {
		class := Of(words)
		if class < 0 || class > 4 {
			t.Fatalf("%d words are of class %d", words, class)
		}
		if class < 4 && Size(class) < words+1 {
			t.Errorf("%d words don't fit into %d", words, Size(class))
		}
		for lesser := range class {
			if Size(lesser) >= words+1 {
				t.Errorf("%d words of class %d would fit into class %d", words, class, lesser)
			}
		}
	}
}

// A Large object of each size has room in its spans, of which there are 1 to 4; in one less it hasn't.
func TestP6_4Spans(t *testing.T) {
	for words := 1; words <= 255; words++ {
		n := Spans(words)
		if Of(words) != 4 {
			if n != 0 {
				t.Errorf("%d words of class %d take %d spans", words, Of(words), n)
			}
			continue
		}
		if n < 1 || n > 4 || 64*n < words+1 || 64*(n-1) >= words+1 {
			t.Errorf("%d words take %d spans", words, n)
		}
	}
}

func TestP6_Example(t *testing.T) {
	if Of(1) != 0 || Of(2) != 1 || Of(15) != 3 || Of(16) != 4 || Spans(63) != 1 || Spans(64) != 2 {
		t.Error(Of(1), Of(2), Of(15), Of(16), Spans(63), Spans(64))
	}
}
