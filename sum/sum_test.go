package sum

import (
	"hash/crc32"
	"math"
	"slices"
	"sync"
	"testing"
)

// full is the word whose bits are all 1.
const full = math.MaxUint64

// mixed are n words that look as if they were by chance, the same each time.
func mixed(n int) []uint64 {
	var l []uint64
	x := uint64(0x9e3779b97f4a7c15)
	for range n {
		x = x*6364136223846793005 + 1442695040888963407
		l = append(l, x^x>>29)
	}
	return l
}

// mixedBytes are n bytes that look as if they were by chance.
func mixedBytes(n int) []byte {
	return bytesOf(mixed(n/8 + 1))[:n]
}

// single are the words that are tried one by one: none, all, one, and all but one bit, the first n, one byte that is full, bytes in order, and mixed ones.
func single() []uint64 {
	l := []uint64{0, full, 0x0102030405060708, 0x0807060504030201, 0x8080808080808080, 0x7f7f7f7f7f7f7f7f, 0xffeeddccbbaa9988, 0xffffffff00000000}
	for i := range 64 {
		one := uint64(1) << i
		l = append(l, one, ^one, one-1)
	}
	for i := range 8 {
		l = append(l, 0xff<<(8*i), ^uint64(0xff<<(8*i)))
	}
	return append(l, mixed(60)...)
}

// lists are the words that are tried together.
func lists() [][]uint64 {
	l := [][]uint64{nil, {}, {0}, {0, 0}, {0, 0, 0}, {full}, {full, full}, {full, 0}, {0, full}, {1, 2}, {2, 1}, {1, 2, 0}, {0, 1, 2}}
	for n := range 40 {
		l = append(l, mixed(n+1), slices.Repeat([]uint64{0}, n), slices.Repeat([]uint64{full}, n))
	}
	return append(l, mixed(255), mixed(256), mixed(257), mixed(70000))
}

// bytesOf tells the words' bytes, the lowest one of each first, by dividing alone.
func bytesOf(words []uint64) []byte {
	var l []byte
	for _, w := range words {
		for range 8 {
			l = append(l, byte(w%256))
			w /= 256
		}
	}
	return l
}

// plain is the sum of bytes bit by bit, as the document tells it, by numbers alone.
func plain(l []byte) uint32 {
	x := uint64(1<<32 - 1)
	for _, b := range l {
		x ^= uint64(b)
		for range 8 {
			odd := x % 2
			x /= 2
			if odd == 1 {
				x ^= 0xedb88320
			}
		}
	}
	return uint32(1<<32 - 1 - x)
}

// plainSeal is the seal that the words must have, put together by adding.
func plainSeal(words []uint64) uint64 {
	return 1<<63 + uint64(len(words))*(1<<32) + uint64(plain(bytesOf(words)))
}

// back is the sum that n bits ahead became x.
func back(x uint32, n int) uint32 {
	for range n {
		if x >= 1<<31 {
			x = (x^0xedb88320)*2 + 1
		} else {
			x *= 2
		}
	}
	return x
}

// sumless is a word whose sum is 0, as that of no words: its low half leaves nothing of the sum, its high one makes it full again.
func sumless() uint64 {
	return uint64(back(math.MaxUint32, 32))<<32 | math.MaxUint32
}

// forget lets the table be unmade, as if nothing had been summed.
func forget() {
	made, table = sync.Once{}, [256]uint32{}
}

func TestP3_1Bytes(t *testing.T) {
	try := func(l []byte) {
		t.Helper()
		got := Bytes(l)
		if want := plain(l); got != want {
			t.Fatalf("Bytes of %d bytes, %x ..: %x, not %x", len(l), l[:min(len(l), 8)], got, want)
		}
		if want := crc32.ChecksumIEEE(l); got != want {
			t.Fatalf("Bytes of %d bytes, %x ..: %x, CRC-32 is %x", len(l), l[:min(len(l), 8)], got, want)
		}
	}
	for i := range 256 {
		try([]byte{byte(i)})
		for j := range 256 {
			try([]byte{byte(i), byte(j)})
		}
	}
	for n := range 300 {
		try(mixedBytes(n))
		try(make([]byte, n))
		try(slices.Repeat([]byte{255}, n))
		try(slices.Repeat([]byte{128}, n))
		high := mixedBytes(n)
		for i := range high {
			high[i] |= 128
		}
		try(high)
	}
	try(mixedBytes(100000))
}

func TestP3_1BytesOfNone(t *testing.T) {
	if x := Bytes(nil); x != 0 {
		t.Errorf("Bytes(nil): %x", x)
	}
	if x := Bytes([]byte{}); x != 0 {
		t.Errorf("Bytes of an empty list: %x", x)
	}
	if x := Bytes(mixedBytes(10)[:0]); x != 0 {
		t.Errorf("Bytes of an empty piece: %x", x)
	}
}

func TestP3_1Of(t *testing.T) {
	for _, w := range single() {
		if got, want := Of(w), plain(bytesOf([]uint64{w})); got != want {
			t.Errorf("Of(%x): %x, not %x", w, got, want)
		}
		if got, want := Of(w), Bytes(bytesOf([]uint64{w})); got != want {
			t.Errorf("Of(%x): %x, that of its bytes is %x", w, got, want)
		}
	}
	for _, l := range lists() {
		if got, want := Of(l...), plain(bytesOf(l)); got != want {
			t.Errorf("Of %d words: %x, not %x", len(l), got, want)
		}
	}
	if x := Of(); x != 0 {
		t.Errorf("Of(): %x", x)
	}
}

func TestP3_1LowestByteFirst(t *testing.T) {
	if got, want := Of(0x3837363534333231), Bytes([]byte("12345678")); got != want {
		t.Errorf("12345678: %x, not %x", got, want)
	}
	if got, want := Of(0x3837363534333231, 0x39), Bytes([]byte("123456789\x00\x00\x00\x00\x00\x00\x00")); got != want {
		t.Errorf("123456789 and seven bytes of 0: %x, not %x", got, want)
	}
	for i := range 8 {
		l := make([]byte, 8)
		l[i] = 0x9b
		if got, want := Of(0x9b<<(8*i)), crc32.ChecksumIEEE(l); got != want {
			t.Errorf("byte %d: %x, not %x", i, got, want)
		}
	}
	if Of(0x0102030405060708) == Bytes([]byte{1, 2, 3, 4, 5, 6, 7, 8}) {
		t.Error("the highest byte was summed first")
	}
}

func TestP3_1OneBehindTheOther(t *testing.T) {
	l := mixed(6)
	for i := range l {
		for j := range i {
			turned := slices.Clone(l)
			turned[i], turned[j] = turned[j], turned[i]
			if Of(turned...) == Of(l...) {
				t.Errorf("words %d and %d changed places: the sum is the same", i, j)
			}
		}
	}
	if Of(0) == Of() || Of(0, 0) == Of(0) {
		t.Error("a word of 0 isn't summed")
	}
}

func TestP3_1Examples(t *testing.T) {
	for s, want := range map[string]uint32{"123456789": 0xcbf43926, "": 0, "a": 0xe8b7be43, "\x00": 0xd202ef8d, "\xff": 0xff000000, "\xff\xff\xff\xff": 0xffffffff} {
		if x := Bytes([]byte(s)); x != want {
			t.Errorf("Bytes of %q: %x, not %x", s, x, want)
		}
	}
	if x := Of(); x != 0 {
		t.Errorf("Of(): %x", x)
	}
}

// Whichever call is the first to sum must find the table made.
func TestP3_1First(t *testing.T) {
	calls := map[string]func() bool{
		"Of":     func() bool { return Of(5) == plain([]byte{5, 0, 0, 0, 0, 0, 0, 0}) },
		"Bytes":  func() bool { return Bytes([]byte{5}) == plain([]byte{5}) },
		"Sealed": func() bool { return Sealed(5) == plainSeal([]uint64{5}) },
		"Fits":   func() bool { return Fits(plainSeal([]uint64{5}), 5) },
	}
	for name, call := range calls {
		forget()
		if !call() {
			t.Errorf("%s, called first, is wrong", name)
		}
		if !call() {
			t.Errorf("%s, called once more, is wrong", name)
		}
	}
}

// The table stands beside the function that sums are worked out by: of each number of a byte they tell the same.
func TestP3_1TableAndFunction(t *testing.T) {
	forget()
	for i := range 256 {
		b := byte(i)
		want := plain([]byte{^b}) ^ 0xff000000
		if got := left(b); got != want {
			t.Errorf("left(%x): %x, not %x", b, got, want)
		}
		if got := Tabled(b); got != left(b) {
			t.Errorf("Tabled(%x): %x, the function tells %x", b, got, left(b))
		}
		if got := Bytes([]byte{^b}) ^ 0xff000000; got != Tabled(b) {
			t.Errorf("Tabled(%x): %x, the sum of the byte %x has %x", b, Tabled(b), ^b, got)
		}
	}
}

// Sums neither make the table nor read it.
func TestP3_1SumsWithoutTable(t *testing.T) {
	defer forget()
	l := mixed(5)
	sums := func() bool {
		return Of(l...) == plain(bytesOf(l)) && Bytes(bytesOf(l)) == plain(bytesOf(l)) && Sealed(l...) == plainSeal(l) && Fits(plainSeal(l), l...)
	}
	forget()
	if !sums() {
		t.Error("a sum is wrong ahead of the table")
	}
	if table != [256]uint32{} {
		t.Error("a sum made the table")
	}
	Tabled(0)
	table = [256]uint32{5: 5}
	if !sums() {
		t.Error("a sum is read from the table")
	}
}

// The table is made once: what it has is not worked out anew.
func TestP3_1TableOnce(t *testing.T) {
	defer forget()
	forget()
	if Tabled(1) != left(1) {
		t.Error("the table isn't there when it is first asked for")
	}
	table[1] = 7
	if x := Tabled(1); x != 7 {
		t.Errorf("Tabled(1): %x: the table was made anew", x)
	}
}

func TestP3_2Sealed(t *testing.T) {
	for _, l := range lists() {
		s := Sealed(l...)
		if want := plainSeal(l); s != want {
			t.Errorf("Sealed of %d words: %x, not %x", len(l), s, want)
		}
		if low := uint32(s); low != Of(l...) {
			t.Errorf("Sealed of %d words has sum %x, not %x", len(l), low, Of(l...))
		}
		if count := s >> 32 % (1 << 31); count != uint64(len(l)) {
			t.Errorf("Sealed of %d words has %d of them", len(l), count)
		}
		if s < 1<<63 {
			t.Errorf("Sealed of %d words: the highest bit of %x is 0", len(l), s)
		}
	}
	for _, w := range single() {
		if s, want := Sealed(w), plainSeal([]uint64{w}); s != want {
			t.Errorf("Sealed(%x): %x, not %x", w, s, want)
		}
	}
}

func TestP3_2SealOfNone(t *testing.T) {
	if s := Sealed(); s != 1<<63 {
		t.Errorf("Sealed(): %x", s)
	}
	if !Fits(1 << 63) {
		t.Error("2^63 doesn't fit no words")
	}
	if Fits(0) || Fits(1) || Fits(full) || Fits(1<<63+1) || Fits(1<<63+1<<32) {
		t.Error("a wrong seal fits no words")
	}
	if Fits(1<<63, 0) || Fits(Sealed(0)) {
		t.Error("the seals of no words and of a word of 0 are the same")
	}
}

func TestP3_2Fits(t *testing.T) {
	for _, l := range lists() {
		s := plainSeal(l)
		if !Fits(s, l...) {
			t.Errorf("%x doesn't fit %d words", s, len(l))
		}
		for _, wrong := range []uint64{0, full, s &^ (1 << 63), s + 1, s - 1, s + 1<<32, s - 1<<32, uint64(Of(l...)), ^s} {
			if Fits(wrong, l...) {
				t.Errorf("%x fits %d words, whose seal is %x", wrong, len(l), s)
			}
		}
		if len(l) > 300 {
			continue
		}
		for bit := range 64 {
			if wrong := s ^ 1<<bit; Fits(wrong, l...) {
				t.Errorf("%x fits %d words, whose seal is %x", wrong, len(l), s)
			}
		}
	}
}

func TestP3_2FitsOthers(t *testing.T) {
	l := [][]uint64{nil, {0}, {1}, {2}, {1, 2}, {2, 1}, {0, 0}, {full}, {full, full}, mixed(3), mixed(4)}
	for i, a := range l {
		for j, b := range l {
			if Fits(Sealed(a...), b...) != (i == j) {
				t.Errorf("the seal of %x and %x: %t", a, b, Fits(Sealed(a...), b...))
			}
		}
	}
}

// As many words as there aren't have another seal, even where the sum is the same.
func TestP3_2Count(t *testing.T) {
	w := sumless()
	if Of(w) != 0 {
		t.Fatalf("Of(%x): %x, not 0", w, Of(w))
	}
	if s := Sealed(w); s != 1<<63+1<<32 {
		t.Errorf("Sealed(%x): %x", w, s)
	}
	if s := Sealed(w, w, w); s != 1<<63+3<<32 {
		t.Errorf("Sealed of three: %x", s)
	}
	if Fits(Sealed(), w) || Fits(Sealed(w)) || Fits(Sealed(w), w, w) || Fits(Sealed(w, w), w) {
		t.Error("a seal fits more words, or fewer")
	}
}

func TestP3_3OneBitOfAWord(t *testing.T) {
	for _, w := range append(single(), sumless()) {
		for bit := range 64 {
			if turned := w ^ 1<<bit; Of(turned) == Of(w) {
				t.Errorf("%x and %x have the same sum", w, turned)
			}
		}
	}
}

func TestP3_3OneBitOfWords(t *testing.T) {
	for _, l := range lists() {
		if len(l) > 40 {
			continue
		}
		x, s := Of(l...), Sealed(l...)
		for i := range l {
			for bit := range 64 {
				l[i] ^= 1 << bit
				if Of(l...) == x {
					t.Errorf("bit %d of word %d of %d turned: the sum is the same", bit, i, len(l))
				}
				if Fits(s, l...) {
					t.Errorf("bit %d of word %d of %d turned: the seal fits", bit, i, len(l))
				}
				l[i] ^= 1 << bit
			}
		}
	}
}

func TestP3_3SealNeverZero(t *testing.T) {
	for _, l := range append(lists(), []uint64{sumless()}, []uint64{sumless(), sumless()}) {
		if Sealed(l...) == 0 {
			t.Errorf("the seal of %d words is 0", len(l))
		}
		if Fits(0, l...) {
			t.Errorf("0 fits %d words", len(l))
		}
	}
}

// What is handed in stays as it is, the room behind it too.
func TestP3_Memory(t *testing.T) {
	words, bytes := mixed(10), mixedBytes(10)
	Of(words[2:5]...)
	Sealed(words[2:5]...)
	Fits(Sealed(words[2:5]...), words[2:5]...)
	Fits(0, words[2:5]...)
	Bytes(bytes[2:5])
	if !slices.Equal(words, mixed(10)) || !slices.Equal(bytes, mixedBytes(10)) {
		t.Error("what was handed in was changed")
	}
}

// What was summed ahead of it turns no sum.
func TestP3_Same(t *testing.T) {
	x, s := Of(mixed(5)...), Sealed(mixed(5)...)
	for _, l := range lists() {
		Sealed(l...)
		Bytes(bytesOf(l))
	}
	if Of(mixed(5)...) != x || Sealed(mixed(5)...) != s {
		t.Error("the same words have another sum")
	}
}
