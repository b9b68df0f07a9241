package bits

import (
	"math"
	"slices"
	"testing"
)

// full is the set of all numbers.
const full = math.MaxUint64

// sets are those that are tried everywhere: the empty one, the full one, all with one number, with all but one, with the first n, and many mixed ones.
func sets() []uint64 {
	l := []uint64{0, full, 5, 7, 255, 0xaaaaaaaaaaaaaaaa, 0x5555555555555555, 0xffffffff00000000, 0x00000000ffffffff}
	for i := range 64 {
		one := uint64(1) << i
		l = append(l, one, ^one, one-1, -one)
	}
	mixed := uint64(0x9e3779b97f4a7c15)
	for range 200 {
		mixed = mixed*6364136223846793005 + 1442695040888963407
		l = append(l, mixed, mixed>>32, mixed<<32)
	}
	return l
}

// beyond are numbers that no set has.
func beyond() []int {
	return []int{math.MinInt, math.MinInt + 1, math.MinInt32, -65, -64, -63, -2, -1, 64, 65, 127, 128, 255, 256, 1 << 32, math.MaxInt32, math.MaxInt - 1, math.MaxInt}
}

// members tells, digit by digit, what is in the set, by halving alone.
func members(m uint64) [64]bool {
	var in [64]bool
	for i := range in {
		in[i] = m%2 == 1
		m /= 2
	}
	return in
}

// least is First by what is in the set.
func least(in [64]bool, n int) int {
	for i := range in {
		if i < n && !in[i] {
			return i
		}
	}
	return -1
}

// counts are the n that are tried for First, Full and Lows: all from 0 to 64, and some beyond.
func counts() []int {
	l := beyond()
	for n := range 65 {
		l = append(l, n)
	}
	return l
}

func TestP1_1Has(t *testing.T) {
	for _, m := range sets() {
		in := members(m)
		for i := range 64 {
			if x := Has(m, i); x != in[i] {
				t.Fatalf("Has(%#x, %d): %v", m, i, x)
			}
		}
		for _, i := range beyond() {
			if Has(m, i) {
				t.Fatalf("Has(%#x, %d): true", m, i)
			}
		}
	}
}

func TestP1_1WithAndWithout(t *testing.T) {
	for _, m := range sets() {
		for i := range 64 {
			in := members(m)
			in[i] = true
			if x := With(m, i); members(x) != in {
				t.Fatalf("With(%#x, %d): %#x", m, i, x)
			}
			in[i] = false
			if x := Without(m, i); members(x) != in {
				t.Fatalf("Without(%#x, %d): %#x", m, i, x)
			}
		}
		for _, i := range beyond() {
			if x := With(m, i); x != m {
				t.Fatalf("With(%#x, %d): %#x", m, i, x)
			}
			if x := Without(m, i); x != m {
				t.Fatalf("Without(%#x, %d): %#x", m, i, x)
			}
		}
	}
}

func TestP1_1Examples(t *testing.T) {
	if x := With(5, 1); x != 7 {
		t.Error("With(5, 1):", x)
	}
	if x := Without(5, 2); x != 1 {
		t.Error("Without(5, 2):", x)
	}
	if x := With(0, 63); x != 1<<63 {
		t.Error("With(0, 63):", x)
	}
	if x := Without(full, 0); x != full-1 {
		t.Error("Without of the full set and 0:", x)
	}
}

func TestP1_2FirstAndFull(t *testing.T) {
	for _, m := range sets() {
		in := members(m)
		for _, n := range counts() {
			want := least(in, n)
			if x := First(m, n); x != want {
				t.Fatalf("First(%#x, %d): %d, not %d", m, n, x, want)
			}
			if x := Full(m, n); x != (want == -1) {
				t.Fatalf("Full(%#x, %d): %v", m, n, x)
			}
		}
	}
}

func TestP1_2FirstExamples(t *testing.T) {
	for _, c := range []struct {
		m    uint64
		n    int
		want int
	}{
		{7, 8, 3}, {255, 8, -1}, {255, 9, 8},
		{0, 0, -1}, {0, 1, 0}, {0, -1, -1}, {0, math.MinInt, -1}, {0, 64, 0}, {0, math.MaxInt, 0},
		{full, 0, -1}, {full, 64, -1}, {full, 65, -1}, {full, math.MaxInt, -1},
		{full >> 1, 63, -1}, {full >> 1, 64, 63}, {full >> 1, 65, 63}, {full - 1, 64, 0},
	} {
		if x := First(c.m, c.n); x != c.want {
			t.Errorf("First(%#x, %d): %d, not %d", c.m, c.n, x, c.want)
		}
		if x := Full(c.m, c.n); x != (c.want == -1) {
			t.Errorf("Full(%#x, %d): %v", c.m, c.n, x)
		}
	}
}

func TestP1_2Lows(t *testing.T) {
	for _, n := range counts() {
		in := members(Lows(n))
		for i := range in {
			if in[i] != (i < n) {
				t.Fatalf("Lows(%d): %#x", n, Lows(n))
			}
		}
	}
	for _, c := range []struct {
		n    int
		want uint64
	}{{math.MinInt, 0}, {-1, 0}, {0, 0}, {1, 1}, {3, 7}, {63, full >> 1}, {64, full}, {65, full}, {math.MaxInt, full}} {
		if x := Lows(c.n); x != c.want {
			t.Errorf("Lows(%d): %#x, not %#x", c.n, x, c.want)
		}
	}
}

func TestP1_3AllAndCount(t *testing.T) {
	for _, m := range sets() {
		var want []int
		for i, is := range members(m) {
			if is {
				want = append(want, i)
			}
		}
		if l := All(m); !slices.Equal(l, want) {
			t.Fatalf("All(%#x): %v", m, l)
		}
		if n := Count(m); n != len(want) {
			t.Fatalf("Count(%#x): %d, not %d", m, n, len(want))
		}
	}
}

func TestP1_3Examples(t *testing.T) {
	if l := All(5); !slices.Equal(l, []int{0, 2}) {
		t.Error("All(5):", l)
	}
	if l := All(5 | 1<<63); !slices.Equal(l, []int{0, 2, 63}) {
		t.Error("All of 0, 2 and 63:", l)
	}
	if l := All(0); len(l) != 0 {
		t.Error("All(0):", l)
	}
	if l := All(full); len(l) != 64 || l[0] != 0 || l[63] != 63 {
		t.Error("All of the full set:", l)
	}
	if n := Count(0); n != 0 {
		t.Error("Count(0):", n)
	}
	if n := Count(full); n != 64 {
		t.Error("Count of the full set:", n)
	}
}

// What All answered is the asker's own: writing there turns no other answer.
func TestP1_3AllIsNew(t *testing.T) {
	one, two := All(5), All(5)
	one[0] = 99
	_ = append(one[:1], 98)
	if !slices.Equal(two, []int{0, 2}) || !slices.Equal(All(5), []int{0, 2}) {
		t.Error("an answer of All shares memory with another one")
	}
}

func TestP1_4WhatWasPutInIsIn(t *testing.T) {
	for _, m := range sets() {
		for i := range 64 {
			in, out := With(m, i), Without(m, i)
			if !Has(in, i) || Has(out, i) {
				t.Fatalf("%d of %#x: in %#x, out of %#x", i, m, in, out)
			}
			for k := range 64 {
				if k != i && (Has(in, k) != Has(m, k) || Has(out, k) != Has(m, k)) {
					t.Fatalf("%d has turned by %d of %#x", k, i, m)
				}
			}
			if Without(in, i) != out || With(out, i) != in {
				t.Fatalf("%d of %#x: in and out again", i, m)
			}
		}
	}
}

// A set that is filled by First, number by number, is filled in order, and is the first n when it is full.
func TestP1_4FilledByFirst(t *testing.T) {
	for n := range 65 {
		m := uint64(0)
		for want := range n {
			if Full(m, n) {
				t.Fatalf("the first %d of %d are full", want, n)
			}
			i := First(m, n)
			if i != want || Count(m) != want {
				t.Fatalf("First of %d: %d, not %d", n, i, want)
			}
			m = With(m, i)
		}
		if !Full(m, n) || m != Lows(n) {
			t.Fatalf("the first %d: %#x", n, m)
		}
		for _, i := range All(m) {
			m = Without(m, i)
		}
		if m != 0 {
			t.Fatalf("what was taken out of the first %d leaves %#x", n, m)
		}
	}
}
