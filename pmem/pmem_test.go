package pmem

import (
	"math"
	"slices"
	"testing"

	"trencher/api"
)

// Picks that always tell the same one.
func first(int) int     { return 0 }
func second(int) int    { return 1 }
func last(many int) int { return many - 1 }

// Picks that tell a number which is none of the words'.
func before(int) int      { return -1 }
func behind(many int) int { return many }
func farBefore(int) int   { return math.MinInt }
func farBehind(int) int   { return math.MaxInt }

// outside are the picks that tell none of the words, and that which there isn't.
func outside() map[string]func(int) int {
	return map[string]func(int) int{"before": before, "behind": behind, "farBefore": farBefore, "farBehind": farBehind, "none": nil}
}

// anyPicks are picks of all kinds.
func anyPicks() []func(int) int {
	return []func(int) int{first, second, last, before, behind, farBefore, farBehind, nil, mixedPick(1), mixedPick(2), mixedPick(3)}
}

// mixed are n numbers that look as if they were by chance, the same each time for the same seed.
func mixed(seed uint64, n int) []uint64 {
	var l []uint64
	x := seed*0x9e3779b97f4a7c15 + 1
	for range n {
		x = x*6364136223846793005 + 1442695040888963407
		l = append(l, (x^x>>29)>>11)
	}
	return l
}

// mixedPick is a pick that tells numbers from -1 to many, as if by chance.
func mixedPick(seed uint64) func(int) int {
	x := seed
	return func(many int) int {
		x = mixed(x, 1)[0]
		return int(x%uint64(many+2)) - 1
	}
}

// noPick fails the test if it is asked.
func noPick(t *testing.T) func(int) int {
	return func(many int) int {
		t.Helper()
		t.Errorf("pick was asked of %d", many)
		return 0
	}
}

// noAddresses are addresses that a region of so many words doesn't have.
func noAddresses(size int) []int {
	return []int{-1, -2, -7, -8, -9, -size, math.MinInt, math.MinInt + 1, size, size + 1, size + 7, size + 8, size * 2, api.MaxRegion, api.MaxRegion + 1, 1 << 32, 1<<32 + 1, math.MaxInt - 7, math.MaxInt}
}

// counted are the words 1, 2, 3 ..
func counted(n int) []uint64 {
	var l []uint64
	for i := range n {
		l = append(l, uint64(i)+1)
	}
	return l
}

// region is one of these words.
func region(t *testing.T, words ...uint64) *Region {
	t.Helper()
	r := Of(words)
	if r == nil {
		t.Fatalf("Of %d words: nil", len(words))
	}
	return r
}

// holds checks what programs see and what is kept.
func holds(t *testing.T, what string, r *Region, seen, kept []uint64) {
	t.Helper()
	if got := r.Seen(); !slices.Equal(got, seen) {
		t.Fatalf("%s: %v is seen, not %v", what, got, seen)
	}
	if got := r.Kept(); !slices.Equal(got, kept) {
		t.Fatalf("%s: %v is kept, not %v", what, got, kept)
	}
}

// with are the words with one of them turned.
func with(words []uint64, a int, x uint64) []uint64 {
	l := slices.Clone(words)
	l[a] = x
	return l
}

func TestP4_1New(t *testing.T) {
	many := func(n int) bool { return n >= 8 && n <= 16384 && n%8 == 0 }
	for n := -100; n < 17000; n++ {
		r := New(n)
		if (r != nil) != many(n) {
			t.Fatalf("New(%d): %v", n, r)
		}
		if r != nil && r.Size() != n {
			t.Fatalf("New(%d) has %d words", n, r.Size())
		}
	}
	for _, n := range []int{0, -8, -16384, 16384 + 8, 32768, 1 << 20, 1 << 32, 1<<32 + 8, math.MaxInt, math.MaxInt - 7, math.MinInt, math.MinInt + 8} {
		if r := New(n); r != nil {
			t.Errorf("New(%d) has %d words", n, r.Size())
		}
	}
}

func TestP4_1Zeros(t *testing.T) {
	for _, n := range []int{8, 16, 24, 1000, 16376, 16384} {
		r := New(n)
		zeros := make([]uint64, n)
		holds(t, "new", r, zeros, zeros)
		for a := range n {
			if x, e := r.Load(a); x != 0 || e != api.OK || r.Dirty(a) {
				t.Fatalf("word %d of %d: %d, error %d", a, n, x, e)
			}
		}
	}
}

func TestP4_1Of(t *testing.T) {
	for n := range 100 {
		r := Of(counted(n))
		if n == 0 || n%8 != 0 {
			if r != nil {
				t.Errorf("Of %d words: %d", n, r.Size())
			}
			continue
		}
		if r == nil || r.Size() != n {
			t.Fatalf("Of %d words: %v", n, r)
		}
		holds(t, "of", r, counted(n), counted(n))
		for a := range n {
			if x, e := r.Load(a); x != uint64(a)+1 || e != api.OK || r.Dirty(a) {
				t.Fatalf("word %d of %d: %d, error %d", a, n, x, e)
			}
		}
	}
	for _, n := range []int{16376, 16384} {
		holds(t, "of", region(t, mixed(1, n)...), mixed(1, n), mixed(1, n))
	}
	for _, n := range []int{16383, 16385, 16392, 32768} {
		if r := Of(make([]uint64, n)); r != nil {
			t.Errorf("Of %d words: %d", n, r.Size())
		}
	}
	if Of(nil) != nil || Of([]uint64{}) != nil {
		t.Error("there is a region of no words")
	}
}

// The image is copied: neither is the region turned by it, nor it by the region, its spare room neither; and what is seen and what is kept are apart.
func TestP4_1Copies(t *testing.T) {
	room := counted(32)
	image := room[8:16]
	r := region(t, image...)
	s := Of(image)
	q := Of(image)
	image[3] = 99
	r.Store(0, 77)
	s.Store(1, 88)
	s.Evict(1)
	want := counted(16)[8:]
	holds(t, "stored", r, with(want, 0, 77), want)
	holds(t, "evicted", s, with(want, 1, 88), with(want, 1, 88))
	holds(t, "untouched", q, want, want)
	if !slices.Equal(room, with(counted(32), 11, 99)) {
		t.Error("the image was turned:", room)
	}
}

func TestP4_1Nil(t *testing.T) {
	var r *Region
	for _, a := range append(noAddresses(8), 0, 1, 7) {
		if x, e := r.Load(a); x != 0 || e != api.ErrRange {
			t.Errorf("Load(%d) of nil: %d, error %d", a, x, e)
		}
		if e := r.Store(a, 1); e != api.ErrRange {
			t.Errorf("Store(%d) of nil: error %d", a, e)
		}
		if e := r.Flush(a); e != api.ErrRange {
			t.Errorf("Flush(%d) of nil: error %d", a, e)
		}
		if e := r.Evict(a); e != api.ErrRange {
			t.Errorf("Evict(%d) of nil: error %d", a, e)
		}
		if r.Dirty(a) {
			t.Errorf("word %d of nil is dirty", a)
		}
	}
	if e := r.Fence(); e != api.ErrRange {
		t.Errorf("Fence of nil: error %d", e)
	}
	r.Crash(noPick(t))
	r.Crash(nil)
	if r.Size() != 0 || r.Steps() != 0 || len(r.Kept()) != 0 || len(r.Seen()) != 0 {
		t.Error("nil has words, or steps")
	}
}

func TestP4_2LoadAndStore(t *testing.T) {
	r := region(t, counted(24)...)
	want := counted(24)
	for i, x := range mixed(2, 200) {
		a := i * 7 % 24
		if e := r.Store(a, x); e != api.OK {
			t.Fatalf("Store(%d): error %d", a, e)
		}
		want[a] = x
		if got, e := r.Load(a); got != x || e != api.OK {
			t.Fatalf("Load(%d): %d, error %d", a, got, e)
		}
		holds(t, "stored", r, want, counted(24))
	}
	for _, x := range []uint64{0, 1, 1 << 63, math.MaxUint64} {
		r.Store(5, x)
		if got, _ := r.Load(5); got != x {
			t.Errorf("Load(5): %x, not %x", got, x)
		}
	}
}

func TestP4_2NoAddress(t *testing.T) {
	for _, size := range []int{8, 24, 16384} {
		r := region(t, counted(size)...)
		r.Store(0, 50)
		r.Flush(0)
		r.Store(0, 60)
		r.Store(size-1, 70)
		seen, kept, steps := r.Seen(), r.Kept(), r.Steps()
		for _, a := range noAddresses(size) {
			if x, e := r.Load(a); x != 0 || e != api.ErrRange {
				t.Errorf("Load(%d) of %d: %d, error %d", a, size, x, e)
			}
			if e := r.Store(a, 1); e != api.ErrRange {
				t.Errorf("Store(%d) of %d: error %d", a, size, e)
			}
			if e := r.Flush(a); e != api.ErrRange {
				t.Errorf("Flush(%d) of %d: error %d", a, size, e)
			}
			if e := r.Evict(a); e != api.ErrRange {
				t.Errorf("Evict(%d) of %d: error %d", a, size, e)
			}
			if r.Dirty(a) {
				t.Errorf("word %d of %d is dirty", a, size)
			}
		}
		holds(t, "refused", r, seen, kept)
		if r.Steps() != steps {
			t.Errorf("steps of refused calls: %d", r.Steps()-steps)
		}
		r.Fence()
		holds(t, "fenced", r, seen, with(kept, 0, 50))
	}
}

// A flush of any address of a line, and a fence, keep that line's words, and no other's.
func TestP4_2FlushAndFence(t *testing.T) {
	for flushed := range 24 {
		r := New(24)
		kept := make([]uint64, 24)
		for a := range 24 {
			r.Store(a, uint64(a)+1)
			if a/8 == flushed/8 {
				kept[a] = uint64(a) + 1
			}
		}
		if e := r.Fence(); e != api.OK {
			t.Fatalf("a fence of nothing: error %d", e)
		}
		holds(t, "fenced alone", r, counted(24), make([]uint64, 24))
		if e := r.Flush(flushed); e != api.OK {
			t.Fatalf("Flush(%d): error %d", flushed, e)
		}
		holds(t, "flushed", r, counted(24), make([]uint64, 24))
		if e := r.Fence(); e != api.OK {
			t.Fatalf("Fence: error %d", e)
		}
		holds(t, "fenced", r, counted(24), kept)
		if e := r.Fence(); e != api.OK {
			t.Fatalf("Fence once more: error %d", e)
		}
		holds(t, "fenced once more", r, counted(24), kept)
	}
}

func TestP4_2SeveralLinesPending(t *testing.T) {
	r := New(32)
	for a := range 32 {
		r.Store(a, uint64(a)+1)
	}
	r.Flush(31)
	r.Flush(0)
	r.Flush(9)
	r.Fence()
	kept := counted(32)
	clear(kept[16:24])
	holds(t, "fenced", r, counted(32), kept)
}

// What is kept of a line is what it was when it was flushed, not what it is when the fence comes.
func TestP4_2StoredBehindFlush(t *testing.T) {
	r := New(16)
	r.Store(3, 1)
	r.Store(4, 2)
	r.Flush(3)
	r.Store(3, 5)
	r.Store(5, 6)
	r.Fence()
	holds(t, "fenced", r, []uint64{0, 0, 0, 5, 2, 6, 0, 0, 0, 0, 0, 0, 0, 0, 0, 0}, []uint64{0, 0, 0, 1, 2, 0, 0, 0, 0, 0, 0, 0, 0, 0, 0, 0})
	r.Fence()
	if k := r.Kept(); k[3] != 1 || k[5] != 0 {
		t.Error("a fence without a flush keeps", k)
	}
}

// Of a line that is flushed anew ahead of a fence the later note counts, also if it is the elder word.
func TestP4_2FlushedAnew(t *testing.T) {
	r := New(16)
	r.Store(3, 1)
	r.Flush(3)
	r.Store(3, 2)
	r.Store(4, 7)
	r.Flush(0)
	r.Store(3, 3)
	r.Fence()
	if k := r.Kept(); k[3] != 2 || k[4] != 7 {
		t.Error("kept:", k)
	}
	r.Store(3, 9)
	r.Flush(3)
	r.Store(3, 2)
	r.Flush(3)
	r.Store(3, 9)
	r.Fence()
	if k := r.Kept(); k[3] != 2 {
		t.Error("kept:", k)
	}
}

func TestP4_2Evict(t *testing.T) {
	for evicted := range 24 {
		r := New(24)
		kept := make([]uint64, 24)
		for a := range 24 {
			r.Store(a, uint64(a)+1)
			if a/8 == evicted/8 {
				kept[a] = uint64(a) + 1
			}
		}
		if e := r.Evict(evicted); e != api.OK {
			t.Fatalf("Evict(%d): error %d", evicted, e)
		}
		holds(t, "evicted", r, counted(24), kept)
		r.Store(evicted, 99)
		r.Fence()
		holds(t, "fenced", r, with(counted(24), evicted, 99), kept)
	}
}

// A line that is evicted while it is pending is noted as it comes out: the fence doesn't bring back what was noted ahead.
func TestP4_2EvictedWhilePending(t *testing.T) {
	r := New(16)
	r.Store(0, 4)
	r.Store(8, 5)
	r.Flush(0)
	r.Flush(8)
	r.Store(0, 6)
	r.Store(8, 7)
	r.Evict(1)
	if k := r.Kept(); k[0] != 6 || k[8] != 0 {
		t.Error("evicted:", k)
	}
	r.Store(0, 9)
	r.Fence()
	if k := r.Kept(); k[0] != 6 || k[8] != 5 {
		t.Error("fenced:", k)
	}
	r.Store(0, 1)
	r.Flush(0)
	r.Store(0, 2)
	r.Evict(0)
	var asked []int
	r.Crash(func(many int) int {
		asked = append(asked, many)
		return 1
	})
	if k := r.Kept(); k[0] != 2 || k[8] != 7 || !slices.Equal(asked, []int{2}) {
		t.Error("crashed:", k, asked)
	}
}

// A line that is not pending doesn't become so by coming out.
func TestP4_2EvictedNotPending(t *testing.T) {
	r := New(8)
	r.Store(0, 1)
	r.Evict(0)
	r.Store(0, 2)
	r.Crash(last)
	r.Fence()
	holds(t, "fenced", r, with(make([]uint64, 8), 0, 2), with(make([]uint64, 8), 0, 2))
}

// wordOf makes a word of which k is kept, n noted (if it is pending), and s seen.
func wordOf(r *Region, a int, k, n, s uint64, pending bool) {
	r.Store(a, k)
	r.Flush(a)
	r.Fence()
	if pending {
		r.Store(a, n)
		r.Flush(a)
	}
	r.Store(a, s)
}

// choices are the words that may be kept, in order, told case by case.
func choices(k, n, s uint64, pending bool) []uint64 {
	switch {
	case !pending && s == k:
		return []uint64{k}
	case !pending:
		return []uint64{k, s}
	case n == k && s == k:
		return []uint64{k}
	case n == k:
		return []uint64{k, s}
	case s == k || s == n:
		return []uint64{k, n}
	}
	return []uint64{k, n, s}
}

// everyWord calls f with all ways in which what is kept, noted and seen may be alike or not.
func everyWord(f func(k, n, s uint64, pending bool)) {
	for i := range uint64(27) {
		f(i%3, i/3%3, i/9, true)
		f(i%3, i/3%3, i/9, false)
	}
}

func TestP4_3Choices(t *testing.T) {
	everyWord(func(k, n, s uint64, pending bool) {
		want := choices(k, n, s, pending)
		for told, x := range want {
			r := New(16)
			wordOf(r, 10, k, n, s, pending)
			var asked []int
			r.Crash(func(many int) int {
				asked = append(asked, many)
				return told
			})
			if len(want) == 1 && len(asked) != 0 || len(want) > 1 && !slices.Equal(asked, []int{len(want)}) {
				t.Fatalf("kept %d, noted %d (%t), seen %d: asked of %v", k, n, pending, s, asked)
			}
			zeros := make([]uint64, 16)
			holds(t, "crashed", r, with(zeros, 10, x), with(zeros, 10, x))
		}
	})
}

func TestP4_3Outside(t *testing.T) {
	for name, pick := range outside() {
		everyWord(func(k, n, s uint64, pending bool) {
			r := New(8)
			wordOf(r, 2, k, n, s, pending)
			r.Crash(pick)
			if x, _ := r.Load(2); x != k || r.Kept()[2] != k {
				t.Fatalf("kept %d, noted %d (%t), seen %d: %s picks %d", k, n, pending, s, name, x)
			}
		})
	}
	for _, told := range []int{2, 3, 4} {
		r := New(8)
		wordOf(r, 0, 5, 0, 6, false)
		r.Crash(func(int) int { return told })
		if x, _ := r.Load(0); x != 5 {
			t.Errorf("of two the number %d picks %d", told, x)
		}
	}
}

// The pick is asked once for each word that may be one of several, by rising addresses, however the words came to be.
func TestP4_3Order(t *testing.T) {
	r := region(t, counted(32)...)
	for _, a := range []int{31, 17, 16, 9, 8, 2, 0} {
		r.Store(a, uint64(a)+100)
	}
	r.Flush(17)
	r.Flush(2)
	for _, a := range []int{17, 2, 3} {
		r.Store(a, uint64(a)+200)
	}
	r.Store(5, 6)
	var asked []int
	told := []int{1, 2, 0, 1, 0, 1, 2, 1}
	r.Crash(func(many int) int {
		asked = append(asked, many)
		return told[len(asked)-1]
	})
	if !slices.Equal(asked, []int{2, 3, 2, 2, 2, 2, 3, 2}) {
		t.Fatal("asked of", asked)
	}
	want := counted(32)
	want[0], want[2], want[8], want[16], want[17], want[31] = 100, 202, 108, 116, 217, 131
	holds(t, "crashed", r, want, want)
}

// Behind it nothing differs, and nothing is pending: nothing more is asked, and a fence brings nothing back.
func TestP4_3BehindCrash(t *testing.T) {
	for _, pick := range anyPicks() {
		r := region(t, counted(16)...)
		for a := range 16 {
			r.Store(a, uint64(a)+50)
		}
		r.Flush(0)
		for a := range 16 {
			r.Store(a, uint64(a)+90)
		}
		r.Crash(pick)
		kept := r.Kept()
		holds(t, "crashed", r, kept, kept)
		for a := range 16 {
			if r.Dirty(a) {
				t.Errorf("word %d is dirty", a)
			}
		}
		r.Crash(noPick(t))
		r.Fence()
		holds(t, "fenced", r, kept, kept)
		r.Store(0, 33)
		r.Fence()
		holds(t, "stored and fenced", r, with(kept, 0, 33), kept)
	}
}

func TestP4_3NothingToPick(t *testing.T) {
	r := region(t, counted(16)...)
	r.Crash(noPick(t))
	r.Store(3, 4)
	r.Flush(3)
	r.Crash(noPick(t))
	r.Store(3, 9)
	r.Evict(3)
	r.Store(12, 9)
	r.Flush(12)
	r.Fence()
	r.Store(4, 77)
	r.Store(4, 5)
	r.Crash(noPick(t))
	want := with(with(counted(16), 3, 9), 12, 9)
	holds(t, "crashed", r, want, want)
}

func TestP4_3Copies(t *testing.T) {
	r := region(t, counted(16)...)
	r.Store(2, 50)
	for _, call := range []func() []uint64{r.Kept, r.Seen} {
		one, two, want := call(), call(), call()
		for i := range one {
			one[i] = 99
		}
		_ = append(one[:4], 98)
		_ = append(one, 97)
		if !slices.Equal(two, want) || !slices.Equal(call(), want) {
			t.Error("an answer shares memory:", two, call())
		}
	}
	holds(t, "asked", r, with(counted(16), 2, 50), counted(16))
	seen, kept := r.Seen(), r.Kept()
	r.Store(1, 60)
	r.Evict(1)
	if seen[1] != 2 || kept[1] != 2 || kept[2] != 3 {
		t.Error("an answer was turned by a call:", seen, kept)
	}
	r.Store(0, 70)
	r.Crash(last)
	r.Store(7, 80)
	if k := r.Kept(); k[0] != 70 || k[7] != 8 {
		t.Error("behind a crash the images share memory:", k)
	}
}

func TestP4_3Dirty(t *testing.T) {
	r := region(t, counted(16)...)
	only := func(what string, dirty ...int) {
		t.Helper()
		for a := range 16 {
			if r.Dirty(a) != slices.Contains(dirty, a) {
				t.Errorf("%s: word %d: %t", what, a, r.Dirty(a))
			}
		}
	}
	only("new")
	r.Store(3, 4)
	only("the same stored")
	r.Store(3, 5)
	r.Store(9, 0)
	only("stored", 3, 9)
	r.Flush(3)
	only("flushed", 3, 9)
	r.Fence()
	only("fenced", 9)
	r.Store(3, 6)
	r.Store(9, 10)
	only("stored back", 3)
	r.Store(8, 1)
	r.Evict(3)
	only("evicted", 8)
	r.Crash(first)
	only("crashed")
}

func TestP4_4Steps(t *testing.T) {
	r := New(16)
	steps := int64(0)
	counts := func(what string, n int64) {
		t.Helper()
		steps += n
		if got := r.Steps(); got != steps {
			t.Fatalf("behind %s there are %d steps, not %d", what, got, steps)
		}
	}
	counts("New", 0)
	r.Load(0)
	counts("Load", 1)
	r.Store(15, 1)
	counts("Store", 1)
	r.Store(15, 1)
	counts("a Store that turns nothing", 1)
	r.Flush(15)
	counts("Flush", 1)
	r.Flush(8)
	counts("Flush anew", 1)
	r.Fence()
	counts("Fence", 1)
	r.Fence()
	counts("Fence of nothing", 1)
	r.Evict(3)
	counts("Evict", 1)
	for _, a := range noAddresses(16) {
		r.Load(a)
		r.Store(a, 1)
		r.Flush(a)
		r.Evict(a)
		r.Dirty(a)
	}
	counts("refused calls", 0)
	r.Store(2, 9)
	counts("Store", 1)
	r.Kept()
	r.Seen()
	r.Size()
	r.Dirty(2)
	r.Steps()
	counts("what only tells", 0)
	r.Crash(last)
	counts("Crash", 0)
	for range 1000 {
		r.Load(2)
	}
	counts("many loads", 1000)
	if n := region(t, counted(64)...).Steps(); n != 0 {
		t.Errorf("Of: %d steps", n)
	}
}

// plain is a region told word by word, as the document's Words have it, of plain lists.
type plain struct {
	seen, kept, noted []uint64
	pending           []bool
	steps             int64
}

func plainOf(words []uint64) *plain {
	return &plain{slices.Clone(words), slices.Clone(words), make([]uint64, len(words)), make([]bool, len(words)), 0}
}

// line has the addresses of an address' line.
func (p *plain) line(a int) []int {
	l := []int{a - a%8}
	for len(l) < 8 {
		l = append(l, l[0]+len(l))
	}
	return l
}

func (p *plain) flush(a int) {
	for _, b := range p.line(a) {
		p.noted[b], p.pending[b] = p.seen[b], true
	}
}

func (p *plain) fence() {
	for b := range p.seen {
		if p.pending[b] {
			p.kept[b], p.pending[b] = p.noted[b], false
		}
	}
}

func (p *plain) evict(a int) {
	for _, b := range p.line(a) {
		p.kept[b] = p.seen[b]
		if p.pending[b] {
			p.noted[b] = p.seen[b]
		}
	}
}

func (p *plain) crash(pick func(int) int) {
	for b := range p.seen {
		l := choices(p.kept[b], p.noted[b], p.seen[b], p.pending[b])
		if len(l) == 1 {
			continue
		}
		if i := pick(len(l)); i > 0 && i < len(l) {
			p.kept[b] = l[i]
		}
	}
	copy(p.seen, p.kept)
	clear(p.pending)
}

// do does one thing, as the numbers say, with the region and with the plain one.
func do(t *testing.T, r *Region, p *plain, what, where, x, seed uint64) {
	t.Helper()
	a := int(where % uint64(len(p.seen)))
	p.steps++
	code := api.OK
	switch what % 16 {
	case 0, 1, 2:
		code = r.Flush(a)
		p.flush(a)
	case 3:
		code = r.Fence()
		p.fence()
	case 4, 5:
		code = r.Evict(a)
		p.evict(a)
	case 6:
		p.steps--
		r.Crash(mixedPick(seed))
		p.crash(mixedPick(seed))
	case 7:
		var got uint64
		if got, code = r.Load(a); got != p.seen[a] {
			t.Fatalf("Load(%d): %d, not %d", a, got, p.seen[a])
		}
	default:
		code = r.Store(a, x%4)
		p.seen[a] = x % 4
	}
	if code != api.OK {
		t.Fatalf("%d at %d: error %d", what%16, a, code)
	}
}

// Whatever is done, the region is what the plain one is.
func TestP4_PlainModel(t *testing.T) {
	for seed := range uint64(300) {
		size := 8 * (int(seed%4) + 1)
		image := mixed(seed, size)
		for i := range image {
			image[i] %= 4
		}
		r, p := region(t, image...), plainOf(image)
		l := mixed(seed+1000, 3*400)
		for i := 0; i < len(l); i += 3 {
			do(t, r, p, l[i], l[i+1], l[i+2], seed+l[i])
			holds(t, "model", r, p.seen, p.kept)
		}
		if r.Steps() != p.steps {
			t.Fatalf("%d steps, not %d", r.Steps(), p.steps)
		}
		for a := range size {
			if r.Dirty(a) != (p.seen[a] != p.kept[a]) {
				t.Fatalf("word %d: dirty %t", a, r.Dirty(a))
			}
		}
	}
}

// What was stored, flushed and fenced is kept, whatever is done ahead and whatever others do since, and whatever is picked.
func TestP4_5Kept(t *testing.T) {
	for n, pick := range anyPicks() {
		for seed := range uint64(40) {
			r := New(24)
			held := int(seed*5) % 24
			scramble(r, seed, -1)
			r.Store(held, 777)
			r.Flush(held ^ 3)
			r.Fence()
			scramble(r, seed+500, held)
			if x, _ := r.Load(held); x != 777 {
				t.Fatalf("word %d: %d is seen", held, x)
			}
			r.Crash(pick)
			if x, _ := r.Load(held); x != 777 || r.Kept()[held] != 777 {
				t.Fatalf("word %d: pick %d made it %d", held, n, x)
			}
		}
	}
}

// scramble stores, flushes, fences and evicts as if by chance, but stores nothing at one address.
func scramble(r *Region, seed uint64, spared int) {
	for i, x := range mixed(seed, 60) {
		a := int(x>>8) % r.Size()
		switch {
		case x%8 == 0:
			r.Flush(a)
		case x%8 == 1:
			r.Evict(a)
		case x%16 == 2:
			r.Fence()
		case a != spared:
			r.Store(a, uint64(i)+1)
		}
	}
}

// What isn't fenced, or was stored again, isn't kept, if the pick tells so.
func TestP4_5NotKept(t *testing.T) {
	r := New(8)
	r.Store(1, 7)
	r.Crash(first)
	if x, _ := r.Load(1); x != 0 {
		t.Errorf("stored: %d", x)
	}
	r.Store(1, 7)
	r.Flush(1)
	r.Crash(first)
	if x, _ := r.Load(1); x != 0 {
		t.Errorf("stored and flushed: %d", x)
	}
	wordOf(r, 1, 7, 0, 8, false)
	r.Crash(last)
	if x, _ := r.Load(1); x != 8 {
		t.Errorf("stored again: %d", x)
	}
}

func TestP4_Examples(t *testing.T) {
	r := New(8)
	r.Store(3, 7)
	r.Crash(first)
	if x, e := r.Load(3); x != 0 || e != api.OK {
		t.Errorf("Load(3): %d, error %d", x, e)
	}
	r.Store(3, 7)
	r.Flush(3)
	r.Fence()
	for _, pick := range anyPicks() {
		r.Crash(pick)
		if x, e := r.Load(3); x != 7 || e != api.OK {
			t.Errorf("Load(3): %d, error %d", x, e)
		}
	}
}

// Two regions to which the same was done are the same, and what is done to one turns nothing of another.
func TestP4_Apart(t *testing.T) {
	a, b, other := New(24), New(24), New(24)
	scramble(a, 9, -1)
	scramble(b, 9, -1)
	a.Crash(mixedPick(4))
	b.Crash(mixedPick(4))
	holds(t, "the same", a, b.Seen(), b.Kept())
	if a.Steps() != b.Steps() || other.Steps() != 0 {
		t.Error("steps:", a.Steps(), b.Steps(), other.Steps())
	}
	holds(t, "untouched", other, make([]uint64, 24), make([]uint64, 24))
}
