package entry_test

import (
	"hash/crc32"
	"math"
	"slices"
	"testing"

	"trencher/api"
	"trencher/entry"
	"trencher/sum"
)

const (
	full   = math.MaxUint64 // the word whose bits are all 1
	region = 16384          // how many addresses there may be
	most   = 16             // how many entries a log has at most
)

// mixed are n words that look as if they were by chance, the same each time.
func mixed(n int) []uint64 {
	var l []uint64
	x := uint64(0x9e3779b97f4a7c15)
	for range n {
		x = x*6364136223846793005 + 1442695040888963407
		l = append(l, x^x>>29)
	}
	return l
}

// values are what may be stored somewhere: the edges, one bit each, and mixed ones.
func values() []uint64 {
	l := []uint64{0, 1, full, full - 1, 9, 16384, 1 << 32, 1<<32 - 1, 5<<32 + 5}
	for i := range 64 {
		l = append(l, 1<<i, full^1<<i)
	}
	return append(l, mixed(20)...)
}

// ats are some addresses that may be, those at the edges first.
func ats() []int {
	return []int{0, region - 1, 1, region - 2, 5, 6, 64, 76, 255, 256, 4095, 8191, 8192, 8193, 12345}
}

// wrongAts are addresses that may not be: those beyond the edges, and some of which the lowest bits alone would be right.
func wrongAts() []int {
	l := []int{-1, region, -2, region + 1, -5, -region, 1 - region, region + 5, 2*region - 1, 2 * region, -2 * region, 32767, 32768, 65535, 65536, 65541, -65536, 5 - 65536}
	for i := 14; i < 63; i++ {
		l = append(l, 1<<i, 1<<i+5, 1<<i-1+region, -1<<i, 5-1<<i)
	}
	return append(l, math.MaxInt32, math.MinInt32, math.MaxUint32, math.MaxUint32-5, math.MaxInt, math.MaxInt-1, math.MinInt, math.MinInt+5)
}

// spread are n entries of different addresses, from one on, each so far from the one ahead; their values are mixed.
func spread(n, from, step int) []api.Entry {
	var l []api.Entry
	for i, x := range mixed(n) {
		l = append(l, api.Entry{At: (from + i*step) % region, X: x})
	}
	return l
}

// filled are n entries with one value, their addresses taken in turn.
func filled(n int, x uint64, ats ...int) []api.Entry {
	var l []api.Entry
	for i := range n {
		l = append(l, api.Entry{At: ats[i%len(ats)], X: x})
	}
	return l
}

// logs are some logs of each length.
func logs() [][]api.Entry {
	l := [][]api.Entry{
		{{At: 5, X: 9}, {At: 6, X: 1}},
		{{At: 5, X: 9}, {At: 6, X: 1}, {At: 5, X: 3}},
		{{At: 0, X: 0}},
		{{At: region - 1, X: full}},
	}
	for n := 1; n <= most; n++ {
		l = append(l, spread(n, 0, 1), spread(n, region-n, 1), spread(n, 64, 1031), spread(n, 7, 0))
		l = append(l, filled(n, 0, 0), filled(n, full, region-1), filled(n, full, 0, region-1), filled(n, 0, 0, 1), filled(n, 1, 76, 64, 76))
	}
	return l
}

// plainMay tells whether entries are a log that may be.
func plainMay(l []api.Entry) bool {
	for _, e := range l {
		if e.At < 0 || e.At > 16383 {
			return false
		}
	}
	return len(l) >= 1 && len(l) <= 16
}

// plain are a log's words, as the document's Words have them.
func plain(l []api.Entry) []uint64 {
	words := make([]uint64, 2*len(l))
	for i, e := range l {
		words[2*i] = uint64(e.At) + uint64(i)*4294967296
		words[2*i+1] = e.X
	}
	return words
}

// plainSeal is the seal of words, by the library's sum.
func plainSeal(words []uint64) uint64 {
	var b []byte
	for _, w := range words {
		for range 8 {
			b = append(b, byte(w%256))
			w /= 256
		}
	}
	return 1<<63 + uint64(len(words))<<32 + uint64(crc32.ChecksumIEEE(b))
}

// plainEntries are the entries whose words these are; false, if they are no log's.
func plainEntries(words []uint64) ([]api.Entry, bool) {
	var l []api.Entry
	for i := 0; i < len(words); i += 2 {
		at := int64(words[i]) - int64(i/2)*4294967296
		if at < 0 || at > 16383 {
			return nil, false
		}
		l = append(l, api.Entry{At: int(at), X: words[i+1]})
	}
	return l, plainMay(l)
}

// plainRead are the entries that count, by trying logs of each length; false, if there are none, but should be.
func plainRead(seal uint64, words []uint64) ([]api.Entry, bool) {
	if seal == 0 {
		return nil, true
	}
	for n := 2; n <= 32 && n <= len(words); n += 2 {
		if l, ok := plainEntries(words[:n]); ok && seal == plainSeal(words[:n]) {
			return l, true
		}
	}
	return nil, false
}

// worded checks that a log has its words and its seal.
func worded(t *testing.T, l []api.Entry) {
	want := plain(l)
	if got := entry.Words(l); !slices.Equal(got, want) {
		t.Helper()
		t.Fatalf("%v: words %x, not %x", l, got, want)
	}
	if got := entry.Seal(l); got != plainSeal(want) {
		t.Helper()
		t.Fatalf("%v: seal %x, not %x", l, got, plainSeal(want))
	}
}

// wordless checks that entries that may not be a log have no words, and the seal 0.
func wordless(t *testing.T, l []api.Entry) {
	if got := entry.Words(l); len(got) != 0 {
		t.Helper()
		t.Fatalf("%d, %v: words %x", len(l), l[:min(len(l), 20)], got)
	}
	if got := entry.Seal(l); got != 0 {
		t.Helper()
		t.Fatalf("%d, %v: seal %x", len(l), l[:min(len(l), 20)], got)
	}
}

// read checks that words are read as a log.
func read(t *testing.T, seal uint64, words []uint64, l []api.Entry) {
	if got, e := entry.Read(seal, words); !slices.Equal(got, l) || e != api.OK {
		t.Helper()
		t.Fatalf("%x, %x: read as %v, %d, not %v", seal, words, got, e, l)
	}
}

// refused checks that words are corrupt, and that no entry is told beside that.
func refused(t *testing.T, seal uint64, words []uint64) {
	if got, e := entry.Read(seal, words); len(got) != 0 || e != api.ErrCorrupt {
		t.Helper()
		t.Fatalf("%x, %x: read as %v, %d", seal, words[:min(len(words), 40)], got, e)
	}
}

// asRead checks that words are read as the log is that they are, or refused, if they are none.
func asRead(t *testing.T, seal uint64, words []uint64) {
	if l, ok := plainRead(seal, words); ok {
		read(t, seal, words, l)
		return
	}
	refused(t, seal, words)
}

// laid are words with others behind them, as new memory.
func laid(words []uint64, behind ...uint64) []uint64 {
	return slices.Concat(words, behind)
}

// behinds are what may stand behind a log's words: nothing, zeros up to a lane's end and beyond it, the words that a longer log goes on with, words of an earlier log, and whatever.
func behinds(l []api.Entry) [][]uint64 {
	rest := 32 - 2*len(l)
	long := plain(spread(64, 100, 3))
	return [][]uint64{
		nil,
		{0},
		{full},
		make([]uint64, rest),
		make([]uint64, rest+1),
		make([]uint64, rest+2),
		slices.Repeat([]uint64{full}, rest),
		long[2*len(l) : 32],
		long[2*len(l):],
		long[:2],
		long[:rest],
		plain(l),
		mixed(rest),
		mixed(300),
	}
}

func TestP10_1Examples(t *testing.T) {
	l := []api.Entry{{At: 5, X: 9}, {At: 6, X: 1}}
	want := []uint64{5, 9, 1<<32 + 6, 1}
	if got := entry.Words(l); !slices.Equal(got, want) {
		t.Errorf("%x", got)
	}
	if got := entry.Seal(l); got != sum.Sealed(5, 9, 1<<32+6, 1) || got>>32 != 1<<31+4 {
		t.Errorf("%x", got)
	}
}

// Each address that may be, at each place of the longest log, and alone.
func TestP10_1EachAddress(t *testing.T) {
	l := spread(most, 64, 1031)
	for at := range region {
		worded(t, []api.Entry{{At: at, X: 7}})
		m := slices.Clone(l)
		m[at%most].At = at
		worded(t, m)
	}
	for i := range most {
		for _, at := range ats() {
			m := slices.Clone(l)
			m[i].At = at
			worded(t, m)
		}
	}
}

func TestP10_1Logs(t *testing.T) {
	for _, l := range logs() {
		worded(t, l)
		if got := entry.Words(l); entry.Seal(l) != sum.Sealed(got...) || len(got) != 2*len(l) {
			t.Errorf("%v: %x, %x", l, got, entry.Seal(l))
		}
	}
}

// Each value, at each place.
func TestP10_1Values(t *testing.T) {
	for _, n := range []int{1, 2, 3, 15, 16} {
		for i := range n {
			for _, x := range values() {
				l := spread(n, 300, 17)
				l[i].X = x
				worded(t, l)
			}
		}
	}
}

// The order of entries is that of their words.
func TestP10_1Order(t *testing.T) {
	for _, l := range logs() {
		m := slices.Clone(l)
		slices.Reverse(m)
		worded(t, m)
		if same := slices.Equal(l, m); same != (entry.Seal(l) == entry.Seal(m)) {
			t.Errorf("%v turned round: %x, %x", l, entry.Seal(l), entry.Seal(m))
		}
	}
}

func TestP10_1NoneAndTooMany(t *testing.T) {
	wordless(t, nil)
	wordless(t, []api.Entry{})
	wordless(t, logs()[0][:0])
	for _, n := range []int{17, 18, 19, 31, 32, 33, 34, 63, 64, 255, 256, 257, 272, 65536, 65537, 65552} {
		wordless(t, spread(n, 0, 1))
		wordless(t, filled(n, 0, 0))
		wordless(t, make([]api.Entry, n))
	}
}

// An address that may not be, at each place of logs of each length.
func TestP10_1WrongAddresses(t *testing.T) {
	for n := 1; n <= most; n++ {
		for i := range n {
			for _, at := range wrongAts() {
				l := spread(n, 64, 1031)
				l[i].At = at
				wordless(t, l)
			}
		}
	}
	for _, at := range wrongAts() {
		wordless(t, filled(16, 1, at))
		wordless(t, filled(17, 1, at))
		wordless(t, filled(2, 1, at, 5))
		wordless(t, filled(2, 1, 5, at))
	}
}

// What is handed in stays as it is, its spare room too, and an answer isn't kept.
func TestP10_1Unchanged(t *testing.T) {
	for _, l := range append(logs(), spread(17, 0, 1), filled(3, 4, -1), filled(3, 4, region)) {
		room := append(slices.Clone(l), spread(8, 9, 9)...)
		was := slices.Clone(room)
		in := room[:len(l)]
		words, seal := entry.Words(in), entry.Seal(in)
		want := slices.Clone(words)
		for i := range words {
			words[i] = ^words[i]
		}
		_ = append(words, 1, 2, 3)
		again := entry.Words(in)
		if !slices.Equal(again, want) || entry.Seal(in) != seal {
			t.Errorf("%v: words turned to %x by what was done with the answer", in, again)
		}
		if !slices.Equal(room, was) {
			t.Errorf("%v turned to %v", was, room)
		}
		for i := range words {
			again[i] = 0
			if words[i] != ^want[i] {
				t.Fatalf("%v: two answers share memory", in)
			}
		}
	}
}

func TestP10_2Examples(t *testing.T) {
	words := []uint64{5, 9, 1<<32 + 6, 1}
	read(t, 0, words, nil)
	read(t, 0, nil, nil)
	read(t, sum.Sealed(words...), words, []api.Entry{{At: 5, X: 9}, {At: 6, X: 1}})
	read(t, sum.Sealed(5, 9), words, []api.Entry{{At: 5, X: 9}})
}

// With the seal 0 nothing counts, whatever the words are.
func TestP10_2ZeroSeal(t *testing.T) {
	for _, words := range [][]uint64{nil, {}, {0}, {full}, {0, 0}, {1}, {full, full, full}, make([]uint64, 32), mixed(31), mixed(32), mixed(33), mixed(1000)} {
		read(t, 0, words, nil)
	}
	for _, l := range logs() {
		for n := range 2*len(l) + 1 {
			read(t, 0, plain(l)[:n], nil)
		}
		for _, behind := range behinds(l) {
			read(t, 0, laid(plain(l), behind...), nil)
		}
	}
}

// The seal says how long the log is: of a lane's words each log is read that stands at their beginning.
func TestP10_2EachLength(t *testing.T) {
	for _, l := range logs() {
		words := laid(plain(l), mixed(32-2*len(l))...)
		for n := 1; n <= len(l); n++ {
			read(t, plainSeal(words[:2*n]), words, l[:n])
		}
	}
}

// A log's first entry alone, with each address.
func TestP10_2EachAddress(t *testing.T) {
	words := plain(spread(2, 5, 5))
	for at := range 3 * region {
		words[0] = uint64(at)
		if at < region {
			read(t, plainSeal(words[:2]), words, []api.Entry{{At: at, X: words[1]}})
			continue
		}
		refused(t, plainSeal(words[:2]), words)
	}
}

// Seals of nothing.
func TestP10_2SealOfNothing(t *testing.T) {
	for _, words := range [][]uint64{nil, {}, {0}, {0, 0}, {5, 9}, mixed(2), mixed(32), make([]uint64, 32)} {
		refused(t, plainSeal(nil), words)
		refused(t, 1<<63, words)
	}
	for _, l := range logs() {
		refused(t, 1<<63, plain(l))
		refused(t, plainSeal(nil), laid(plain(l), 0, 0))
	}
}

// Seals of an odd number of words, with and without the one that would be the rest of the last entry.
func TestP10_2Odd(t *testing.T) {
	long := plain(spread(40, 64, 31))
	for n := 1; n <= 71; n += 2 {
		refused(t, plainSeal(long[:n]), long[:n])
		refused(t, plainSeal(long[:n]), long[:n+1])
		refused(t, plainSeal(long[:n]), long)
		refused(t, plainSeal(long[:n]), long[:n-1])
		zeros := make([]uint64, 72)
		refused(t, plainSeal(zeros[:n]), zeros)
	}
}

// Seals of more entries than a log has, each of which would be right.
func TestP10_2TooMany(t *testing.T) {
	for _, n := range []int{17, 18, 19, 31, 32, 33, 48, 64, 100, 256, 257, 65537} {
		words := plain(spread(n, 0, 1))
		refused(t, plainSeal(words), words)
		refused(t, plainSeal(words), laid(words, 0, 0))
		refused(t, plainSeal(words), words[:32])
		refused(t, plainSeal(words[:len(words)-1]), words)
	}
}

// Words that are cut off at each place, also within an entry.
func TestP10_2CutOff(t *testing.T) {
	for _, l := range logs() {
		words := plain(l)
		for n := range words {
			refused(t, plainSeal(words), words[:n])
			refused(t, plainSeal(words), slices.Clip(words[:n]))
		}
		refused(t, plainSeal(words), nil)
	}
}

// Seals of words that aren't at the beginning: also such as would be right there, and such as say they are no first entry.
func TestP10_2NotAtTheBeginning(t *testing.T) {
	for _, l := range logs() {
		words := plain(l)
		for _, ahead := range [][]uint64{{0}, {5}, {0, 0}, {full}, {5, 9}, plain(spread(1, 7, 7)), plain(spread(2, 7, 7)), mixed(3)} {
			all := laid(ahead, laid(words, make([]uint64, 40)...)...)
			if n := len(words); !slices.Equal(all[:n], words) {
				refused(t, plainSeal(words), all)
				refused(t, plainSeal(words), all[:len(ahead)+n])
				refused(t, plainSeal(words), all[:n])
			}
		}
		for i := 2; i < len(words); i += 2 {
			for n := i + 1; n <= len(words); n++ {
				asRead(t, plainSeal(words[i:n]), words)
				refused(t, plainSeal(words[i:n]), words[i:])
			}
		}
	}
}

// Words with an entry whose address may not be, at each place, beside a seal that fits.
func TestP10_2WrongAddresses(t *testing.T) {
	for n := 1; n <= most; n++ {
		for i := range n {
			for _, at := range []uint64{region, region + 1, region + 5, 2*region - 1, 2 * region, 65535, 65536, 65541, 1 << 20, 1<<31 - 1, 1 << 31, 1<<31 + 5, 1<<32 - 1, 1<<32 - 5, 1<<32 - region, 1<<32 - 65536} {
				words := plain(spread(n, 64, 1031))
				words[2*i] = uint64(i)<<32 + at
				refused(t, plainSeal(words), words)
				refused(t, plainSeal(words), laid(words, mixed(32-2*n)...))
			}
		}
	}
}

// wrongOnes are which ones the i-th entry may say that it is, but isn't.
func wrongOnes(i int) []uint64 {
	l := []uint64{uint64(i) + 1, uint64(i) + 16, uint64(i) + 256, uint64(i) + 65536, 1<<32 - 1, uint64(i) + 1<<31, 1<<32 - 1 - uint64(i)}
	for k := range 32 {
		l = append(l, uint64(i)^1<<k)
	}
	if i > 0 {
		l = append(l, 0, uint64(i)-1)
	}
	return l
}

// Words with an entry that isn't the one that it says it is, beside a seal that fits, and beside that of the log that would be right.
func TestP10_2WrongOnes(t *testing.T) {
	for n := 1; n <= most; n++ {
		right := plain(spread(n, 64, 1031))
		for i := range n {
			for _, one := range wrongOnes(i) {
				words := slices.Clone(right)
				words[2*i] = words[2*i]&(1<<32-1) | one<<32
				refused(t, plainSeal(words), words)
				refused(t, plainSeal(right), words)
			}
		}
	}
}

// Two entries that have changed places, all that say they are the first one, and all that count from one on.
func TestP10_2OutOfOrder(t *testing.T) {
	for n := 2; n <= most; n++ {
		right := plain(spread(n, 64, 1031))
		for i := range n - 1 {
			words := slices.Clone(right)
			words[2*i], words[2*i+1], words[2*i+2], words[2*i+3] = right[2*i+2], right[2*i+3], right[2*i], right[2*i+1]
			refused(t, plainSeal(words), words)
			refused(t, plainSeal(right), words)
		}
		first, later := slices.Clone(right), slices.Clone(right)
		for i := range n {
			first[2*i] &= 1<<32 - 1
			later[2*i] += 1 << 32
		}
		refused(t, plainSeal(first), first)
		refused(t, plainSeal(later), later)
	}
}

// Seals of which the highest bit, the count, or the sum is another one.
func TestP10_2WrongSeals(t *testing.T) {
	for _, l := range logs() {
		words := laid(plain(l), make([]uint64, 40)...)
		seal := plainSeal(plain(l))
		refused(t, seal-1<<63, words)
		for n := range uint64(80) {
			if n != uint64(2*len(l)) {
				refused(t, 1<<63+n<<32+seal%(1<<32), words)
				refused(t, n<<32+seal%(1<<32), words)
			}
		}
		for _, s := range []uint64{1, 2, 1 << 31, 1<<32 - 1, full} {
			refused(t, seal^s, words)
		}
		refused(t, ^seal, words)
		refused(t, seal+1, words)
		refused(t, seal-1, words)
	}
}

// Seals such as no words have, and such as few have.
func TestP10_2Seals(t *testing.T) {
	many := []uint64{1, 2, 9, 1 << 31, 1 << 32, 2 << 32, 1<<32 - 1, 1 << 62, 1<<63 - 1, 1 << 63, 1<<63 + 1, 1<<63 + 1<<32, 1<<63 + 2<<32, 1<<63 + 32<<32, 1<<63 + 34<<32, full, full - 1, 3 << 62}
	for i := range 64 {
		many = append(many, 1<<i, full^1<<i, full<<i, full>>i)
	}
	for _, words := range [][]uint64{nil, {}, {0}, {0, 0}, {5, 9}, {5, 9, 6, 1}, {5, 9, 1<<32 + 6, 1}, make([]uint64, 32), make([]uint64, 33), mixed(32), plain(spread(16, 0, 1)), plain(spread(100, 0, 1))} {
		for _, seal := range append(many, mixed(50)...) {
			refused(t, seal, words)
		}
		for seal := range uint64(300) {
			asRead(t, seal, words)
			refused(t, seal<<32+1, words)
		}
	}
}

// Each seal of whatever part of whatever words, held against the plain reading.
func TestP10_2Whatever(t *testing.T) {
	lists := [][]uint64{make([]uint64, 12), {5, 9, 6, 1, 7, 2}, {5, 9, 1<<32 + 6, 1, 1<<32 + 7, 2}, {5, 9, 1<<32 + 6, 1, 2<<32 + region, 2}, {0, 0, 1 << 32, 0, 2 << 32, 0, 3 << 32, 0}, mixed(12), plain(spread(6, 1, 1))}
	for _, words := range lists {
		for i := range len(words) + 1 {
			for k := i; k <= len(words); k++ {
				for _, other := range lists {
					asRead(t, plainSeal(words[i:k]), other)
					asRead(t, plainSeal(words[i:k]), other[:min(k, len(other))])
				}
			}
		}
	}
}

// What is handed in stays as it is, its spare room too, and an answer isn't kept.
func TestP10_2Unchanged(t *testing.T) {
	for _, l := range logs() {
		for _, behind := range behinds(l) {
			room := laid(plain(l), append(behind, 1, 2, 3, 4)...)
			was := slices.Clone(room)
			in, seal := room[:len(room)-4], plainSeal(plain(l))
			got, _ := entry.Read(seal, in)
			for i := range got {
				got[i] = api.Entry{At: -1, X: ^got[i].X}
			}
			_ = append(got, api.Entry{At: 3, X: 3}, api.Entry{At: 4, X: 4})
			read(t, seal, in, l)
			read(t, 0, in, nil)
			refused(t, seal^1, in)
			if !slices.Equal(room, was) {
				t.Fatalf("%x turned to %x", was, room)
			}
			again, _ := entry.Read(seal, in)
			clear(again)
			if len(got) != len(l) || got[0].At != -1 {
				t.Fatalf("%v: two answers share memory", l)
			}
		}
	}
}

// plainLast are the entries that have no later one of their address.
func plainLast(l []api.Entry) []api.Entry {
	var left []api.Entry
	for i, e := range l {
		later := 0
		for _, f := range l[i+1:] {
			if f.At == e.At {
				later++
			}
		}
		if later == 0 {
			left = append(left, e)
		}
	}
	return left
}

// left checks which entries are left of a list.
func left(t *testing.T, l []api.Entry, want []api.Entry) {
	if got := entry.Last(l); !slices.Equal(got, want) {
		t.Helper()
		t.Fatalf("%v: %v, not %v", l[:min(len(l), 40)], got[:min(len(got), 40)], want[:min(len(want), 40)])
	}
}

func TestP10_3Examples(t *testing.T) {
	left(t, nil, nil)
	left(t, []api.Entry{}, nil)
	left(t, []api.Entry{{At: 5, X: 9}}, []api.Entry{{At: 5, X: 9}})
	left(t, []api.Entry{{At: 5, X: 9}, {At: 6, X: 1}}, []api.Entry{{At: 5, X: 9}, {At: 6, X: 1}})
	left(t, []api.Entry{{At: 6, X: 1}, {At: 5, X: 9}}, []api.Entry{{At: 6, X: 1}, {At: 5, X: 9}})
	left(t, []api.Entry{{At: 5, X: 9}, {At: 5, X: 3}}, []api.Entry{{At: 5, X: 3}})
	left(t, []api.Entry{{At: 5, X: 9}, {At: 6, X: 1}, {At: 5, X: 3}}, []api.Entry{{At: 6, X: 1}, {At: 5, X: 3}})
	left(t, []api.Entry{{At: 5, X: 9}, {At: 5, X: 9}, {At: 5, X: 9}}, []api.Entry{{At: 5, X: 9}})
}

// Each list of up to six entries of some addresses: such as may be, such as may not be, and such as are alike in their lowest bits.
func TestP10_3Each(t *testing.T) {
	for _, some := range [][]int{{5, 6, 7}, {0, region - 1, 1}, {0, -1, 1}, {5, region + 5, 1<<32 + 5}, {-1, region - 1, math.MaxUint32}, {math.MinInt, 0, math.MaxInt}, {-5, 5, -6}} {
		for n := range 7 {
			count := 1
			for range n {
				count *= len(some)
			}
			for which := range count {
				var l []api.Entry
				for i := range n {
					l = append(l, api.Entry{At: some[which%len(some)], X: uint64(100 - i)})
					which /= len(some)
				}
				left(t, l, plainLast(l))
			}
		}
	}
}

// Of entries of one address the last one is left, whatever the values are.
func TestP10_3Values(t *testing.T) {
	for _, x := range values() {
		for _, y := range []uint64{0, 1, x, x + 1, ^x, full} {
			left(t, []api.Entry{{At: 9, X: x}, {At: 9, X: y}}, []api.Entry{{At: 9, X: y}})
			left(t, []api.Entry{{At: 9, X: x}, {At: 8, X: x}, {At: 9, X: y}}, []api.Entry{{At: 8, X: x}, {At: 9, X: y}})
			left(t, []api.Entry{{At: 8, X: x}, {At: 9, X: y}}, []api.Entry{{At: 8, X: x}, {At: 9, X: y}})
		}
	}
}

func TestP10_3Logs(t *testing.T) {
	for _, l := range logs() {
		left(t, l, plainLast(l))
		twice := slices.Concat(l, l)
		left(t, twice, plainLast(l))
	}
	for _, at := range wrongAts() {
		left(t, []api.Entry{{At: at, X: 1}, {At: 5, X: 2}, {At: at, X: 3}}, []api.Entry{{At: 5, X: 2}, {At: at, X: 3}})
		left(t, []api.Entry{{At: 5, X: 1}, {At: at, X: 2}, {At: 5, X: 3}}, []api.Entry{{At: at, X: 2}, {At: 5, X: 3}})
		left(t, []api.Entry{{At: at, X: 1}, {At: at & (region - 1), X: 2}, {At: at & math.MaxUint32, X: 3}}, plainLast([]api.Entry{{At: at, X: 1}, {At: at & (region - 1), X: 2}, {At: at & math.MaxUint32, X: 3}}))
	}
}

// Lists that are longer than any log.
func TestP10_3Long(t *testing.T) {
	for _, n := range []int{17, 33, 257, 1000} {
		left(t, spread(n, 0, 1), spread(n, 0, 1))
		left(t, spread(n, 5, 0), spread(n, 5, 0)[n-1:])
		for _, step := range []int{4096, 1031, region / 16} {
			left(t, spread(n, 3, step), plainLast(spread(n, 3, step)))
		}
		falling := spread(n, 0, 1)
		slices.Reverse(falling)
		left(t, falling, falling)
	}
	all := spread(200000, 0, 1)
	left(t, all, all[200000-region:])
}

// What is left is left once more.
func TestP10_3Twice(t *testing.T) {
	for _, l := range logs() {
		once := entry.Last(l)
		left(t, once, once)
	}
}

// What is handed in stays as it is, its spare room too, and an answer isn't kept.
func TestP10_3Unchanged(t *testing.T) {
	for _, l := range append(logs(), spread(40, 0, 1), filled(3, 4, -1, region)) {
		room := append(slices.Clone(l), spread(8, 9, 9)...)
		was := slices.Clone(room)
		in := room[:len(l)]
		got := entry.Last(in)
		for i := range got {
			got[i] = api.Entry{At: -77, X: 77}
		}
		_ = append(got, api.Entry{At: -78, X: 78})
		again := entry.Last(in)
		if !slices.Equal(room, was) {
			t.Fatalf("%v turned to %v", was, room)
		}
		left(t, in, plainLast(l))
		clear(again)
		if got[0].At != -77 {
			t.Fatalf("%v: two answers share memory", in)
		}
	}
}

// A log's words are read as the log by its seal, whatever is behind them.
func TestP10_4ThereAndBack(t *testing.T) {
	for _, l := range logs() {
		words, seal := entry.Words(l), entry.Seal(l)
		for _, behind := range behinds(l) {
			read(t, seal, laid(words, behind...), l)
		}
	}
}

// With any one bit turned, among its words or in its seal, it isn't read as the log; behind its words it is.
func TestP10_4EachBit(t *testing.T) {
	for _, l := range logs() {
		seal := entry.Seal(l)
		words := laid(entry.Words(l), mixed(6)...)
		for k := range 64 {
			refused(t, seal^1<<k, words)
		}
		for i := range words {
			for k := range 64 {
				words[i] ^= 1 << k
				if i < 2*len(l) {
					refused(t, seal, words)
				} else if k%16 == 0 {
					read(t, seal, words, l)
				}
				words[i] ^= 1 << k
			}
		}
	}
}

// Turned bits with whatever else behind the words, or nothing.
func TestP10_4Behind(t *testing.T) {
	for _, l := range [][]api.Entry{spread(1, 5, 5), spread(2, 0, region-1), filled(3, 0, 0), spread(8, 9, 9), spread(15, 64, 64), spread(16, 1, 1)} {
		seal := entry.Seal(l)
		for _, behind := range behinds(l) {
			words := laid(entry.Words(l), behind...)
			for k := range 64 {
				refused(t, seal^1<<k, words)
				for i := range 2 * len(l) {
					if (i+k)%5 != 0 {
						continue
					}
					words[i] ^= 1 << k
					refused(t, seal, words)
					words[i] ^= 1 << k
				}
			}
		}
	}
}

// Logs that aren't one another's words aren't read as one another.
func TestP10_4Apart(t *testing.T) {
	all := logs()
	for _, l := range all {
		for _, m := range all {
			asRead(t, entry.Seal(l), entry.Words(m))
			if n := len(m); n < len(l) || !slices.Equal(l, m[:len(l)]) {
				refused(t, entry.Seal(l), entry.Words(m))
			}
		}
	}
}
