package pack

import (
	"math"
	"slices"
	"testing"
)

// full is the word whose bits are all 1.
const full = math.MaxUint64

// words are those that are tried everywhere: none, all, one, and all but one bit, the first n, and many mixed ones.
func words() []uint64 {
	l := []uint64{0, full, 0x1234, 0xaaaaaaaaaaaaaaaa, 0x5555555555555555, 0xffffffff00000000}
	for i := range 64 {
		one := uint64(1) << i
		l = append(l, one, ^one, one-1)
	}
	return append(l, mixed(100)...)
}

// mixed are n words that look as if they were by chance, the same each time.
func mixed(n int) []uint64 {
	var l []uint64
	x := uint64(0x9e3779b97f4a7c15)
	for range n {
		x = x*6364136223846793005 + 1442695040888963407
		l = append(l, x^x>>29)
	}
	return l
}

// digits tells the word's bits, from the lowest one on, by halving alone.
func digits(x uint64) []bool {
	l := make([]bool, 64)
	for i := range l {
		l[i] = x%2 == 1
		x /= 2
	}
	return l
}

// number is the word that has these bits, from the lowest one on, by doubling alone.
func number(l []bool) uint64 {
	x := uint64(0)
	for _, one := range slices.Backward(l) {
		x *= 2
		if one {
			x++
		}
	}
	return x
}

// noFields are bits and lengths that are no field.
func noFields() [][2]int {
	l := [][2]int{
		{0, 0}, {0, -1}, {0, -64}, {0, 65}, {0, 128}, {0, math.MinInt}, {0, math.MaxInt},
		{-1, 1}, {-1, 2}, {-1, 64}, {-64, 64}, {-64, 65}, {math.MinInt, 1}, {math.MinInt, 64}, {math.MinInt, math.MinInt},
		{64, 1}, {64, 0}, {65, 1}, {65, -1}, {100, -50}, {128, 1}, {1, 64}, {63, 2}, {60, 5}, {5, 60},
		{math.MaxInt, 1}, {math.MaxInt, 2}, {math.MaxInt, 64}, {math.MaxInt, math.MaxInt}, {math.MaxInt, math.MinInt}, {math.MinInt, math.MaxInt},
		{1, math.MaxInt}, {2, math.MaxInt}, {32, -32}, {1 << 32, 1}, {0, 1 << 32}, {0, 1<<32 + 1},
	}
	for at := range 64 {
		l = append(l, [2]int{at, 0}, [2]int{at, -1}, [2]int{at, 65 - at}, [2]int{at, 65}, [2]int{-1 - at, 1})
	}
	return l
}

// eachField calls f with every field that a word has.
func eachField(f func(at, n int)) {
	for at := range 64 {
		for n := 1; n <= 64-at; n++ {
			f(at, n)
		}
	}
}

func TestP2_1Get(t *testing.T) {
	for _, x := range words() {
		d := digits(x)
		eachField(func(at, n int) {
			if got, want := Get(x, at, n), number(d[at:at+n]); got != want {
				t.Fatalf("Get(%#x, %d, %d): %#x, not %#x", x, at, n, got, want)
			}
		})
	}
}

func TestP2_1Put(t *testing.T) {
	for i, x := range words() {
		vs := []uint64{0, 1, full, mixed(i + 1)[i]}
		eachField(func(at, n int) {
			for _, v := range vs {
				d := digits(x)
				copy(d[at:at+n], digits(v))
				if got, want := Put(x, at, n, v), number(d); got != want {
					t.Fatalf("Put(%#x, %d, %d, %#x): %#x, not %#x", x, at, n, v, got, want)
				}
			}
		})
	}
}

func TestP2_1NoField(t *testing.T) {
	for _, c := range noFields() {
		at, n := c[0], c[1]
		for _, x := range words() {
			if got := Get(x, at, n); got != 0 {
				t.Fatalf("Get(%#x, %d, %d): %#x", x, at, n, got)
			}
			for _, v := range []uint64{0, 1, 21, full} {
				if got := Put(x, at, n, v); got != x {
					t.Fatalf("Put(%#x, %d, %d, %#x): %#x", x, at, n, v, got)
				}
			}
		}
	}
}

func TestP2_1Examples(t *testing.T) {
	for _, c := range []struct {
		x     uint64
		at, n int
		want  uint64
	}{
		{0x1234, 4, 8, 0x23}, {full, 0, 64, full}, {full, 63, 1, 1}, {1 << 63, 63, 1, 1}, {full >> 1, 63, 1, 0},
		{5, 0, 1, 1}, {5, 1, 1, 0}, {0xf000000000000000, 60, 4, 15}, {full, 1, 63, full >> 1},
		{full, 1, 64, 0}, {full, 64, 1, 0}, {full, -1, 2, 0}, {full, 0, 0, 0}, {full, 0, 65, 0},
	} {
		if got := Get(c.x, c.at, c.n); got != c.want {
			t.Errorf("Get(%#x, %d, %d): %#x, not %#x", c.x, c.at, c.n, got, c.want)
		}
	}
	for _, c := range []struct {
		x     uint64
		at, n int
		v     uint64
		want  uint64
	}{
		{0, 8, 4, 21, 1280}, {0xffff, 4, 8, 0x1a5, 0xfa5f}, {7, 0, 64, 9, 9}, {0, 63, 1, 1, 1 << 63}, {full, 63, 1, 2, full >> 1},
		{0, 1, 63, full, full - 1}, {full, 0, 1, 0, full - 1},
		{7, 60, 5, 1, 7}, {7, 0, 0, 1, 7}, {7, -1, 1, 1, 7}, {7, 0, 65, 1, 7}, {7, 64, 1, 1, 7},
	} {
		if got := Put(c.x, c.at, c.n, c.v); got != c.want {
			t.Errorf("Put(%#x, %d, %d, %#x): %#x, not %#x", c.x, c.at, c.n, c.v, got, c.want)
		}
	}
}

// layouts are those that may be: none, each single width, each pair of 64 bits in all, fields of one width alone, and many mixed ones, filled up to 64 bits or not.
func layouts() [][]int {
	l := [][]int{nil, {}, {4, 12}, {16, 8, 8}, {1, 62, 1}, {31, 1, 32}}
	for n := 1; n <= 64; n++ {
		l = append(l, []int{n}, slices.Repeat([]int{n}, 64/n))
		if n < 64 {
			l = append(l, []int{n, 64 - n})
		}
	}
	for _, x := range mixed(100) {
		var some []int
		room := 64
		for room > 0 && x%16 != 0 {
			n := min(int(x%24)+1, room)
			some = append(some, n)
			room -= n
			x = x*6364136223846793005>>3 + 1
		}
		l = append(l, some)
		if room > 0 {
			l = append(l, append(slices.Clone(some), room))
		}
	}
	return l
}

// noLayouts are widths that may not be: one that is none, at any place, or more than 64 bits in all.
func noLayouts() [][]int {
	l := [][]int{
		{60, 5}, {64, 1}, {1, 64}, {63, 2}, {64, 64}, {32, 32, 1}, {1, 63, 1}, slices.Repeat([]int{1}, 65), slices.Repeat([]int{1}, 1000), slices.Repeat([]int{64}, 4),
		{math.MaxInt, math.MaxInt, 2}, {1, math.MaxInt}, {1, math.MaxInt, 64}, {64, -64}, {65, -1}, {-1, 65}, {-1, 2}, {32, -32, 64}, {64, math.MinInt}, {math.MaxInt, math.MinInt, 65},
	}
	for _, n := range []int{0, -1, -64, 65, 66, 128, 1 << 32, 1<<32 + 1, math.MinInt, math.MaxInt} {
		l = append(l, []int{n}, []int{n, 4}, []int{4, n}, []int{4, n, 4}, []int{4, 60, n}, []int{64, n})
	}
	return l
}

// bitsOf is how many bits a layout has in all.
func bitsOf(widths []int) int {
	sum := 0
	for _, n := range widths {
		sum += n
	}
	return sum
}

// valuesOf cuts a word's bits, one behind the other, into as many values as there are widths.
func valuesOf(widths []int, x uint64) []uint64 {
	var l []uint64
	d := digits(x)
	for _, n := range widths {
		l = append(l, number(d[:n]))
		d = d[n:]
	}
	return l
}

// low is the word's n low bits alone.
func low(x uint64, n int) uint64 {
	return number(digits(x)[:n])
}

func TestP2_2JoinAndSplit(t *testing.T) {
	for _, w := range layouts() {
		for _, x := range words() {
			x = low(x, bitsOf(w))
			values := valuesOf(w, x)
			if got, ok := Join(w, values); got != x || !ok {
				t.Fatalf("Join(%v, %v): %#x and %v, not %#x", w, values, got, ok, x)
			}
			if got, ok := Split(w, x); !slices.Equal(got, values) || !ok {
				t.Fatalf("Split(%v, %#x): %v and %v, not %v", w, x, got, ok, values)
			}
		}
	}
}

func TestP2_2NoLayout(t *testing.T) {
	for _, w := range noLayouts() {
		for _, values := range [][]uint64{nil, make([]uint64, len(w)), slices.Repeat([]uint64{1}, len(w)), slices.Repeat([]uint64{full}, len(w))} {
			if x, ok := Join(w, values); x != 0 || ok {
				t.Errorf("Join(%v, %v): %#x and %v", w, values, x, ok)
			}
		}
		for _, x := range []uint64{0, 1, 83, 1 << 63, full} {
			if l, ok := Split(w, x); len(l) != 0 || ok {
				t.Errorf("Split(%v, %#x): %v and %v", w, x, l, ok)
			}
		}
	}
}

func TestP2_2MoreOrFewerValues(t *testing.T) {
	for _, w := range layouts() {
		for k := range len(w) + 3 {
			if k == len(w) {
				continue
			}
			for _, v := range []uint64{0, 1} {
				if x, ok := Join(w, slices.Repeat([]uint64{v}, k)); x != 0 || ok {
					t.Errorf("Join(%v, %d times %d): %#x and %v", w, k, v, x, ok)
				}
			}
		}
	}
}

// A value fits up to the field's greatest one: the one above it, and any other above, is refused, at whatever place it is.
func TestP2_2ValueThatDoesNotFit(t *testing.T) {
	for _, w := range layouts() {
		for i, n := range w {
			values := make([]uint64, len(w))
			values[i] = low(full, n)
			if _, ok := Join(w, values); !ok {
				t.Errorf("Join(%v, %v): false", w, values)
			}
			if n == 64 {
				continue
			}
			for _, v := range []uint64{low(full, n) + 1, 1 << 63, 1<<63 + 1, full} {
				values[i] = v
				if x, ok := Join(w, values); x != 0 || ok {
					t.Errorf("Join(%v, %v): %#x and %v", w, values, x, ok)
				}
			}
		}
	}
}

func TestP2_2BitBehindAllFields(t *testing.T) {
	for _, w := range layouts() {
		sum := bitsOf(w)
		for i := range 64 {
			for _, x := range []uint64{0, low(full, sum), low(0x9e3779b97f4a7c15, sum)} {
				d := digits(x)
				d[i] = true
				l, ok := Split(w, number(d))
				if i < sum && !ok || i >= sum && (ok || len(l) != 0) {
					t.Fatalf("Split(%v, %#x): %v and %v", w, number(d), l, ok)
				}
			}
		}
	}
}

func TestP2_2Examples(t *testing.T) {
	for _, c := range []struct {
		widths []int
		values []uint64
		x      uint64
		ok     bool
	}{
		{[]int{4, 12}, []uint64{3, 5}, 83, true}, {nil, nil, 0, true}, {[]int{}, []uint64{}, 0, true}, {[]int{64}, []uint64{full}, full, true},
		{[]int{1}, []uint64{1}, 1, true}, {[]int{63, 1}, []uint64{0, 1}, 1 << 63, true}, {[]int{1, 63}, []uint64{0, full >> 1}, full - 1, true},
		{[]int{4}, []uint64{16}, 0, false}, {[]int{63}, []uint64{1 << 63}, 0, false}, {[]int{1}, []uint64{2}, 0, false}, {[]int{4}, nil, 0, false}, {nil, []uint64{0}, 0, false},
		{[]int{0}, []uint64{0}, 0, false}, {[]int{-1}, []uint64{0}, 0, false}, {[]int{65}, []uint64{0}, 0, false}, {[]int{60, 5}, []uint64{0, 0}, 0, false},
	} {
		if x, ok := Join(c.widths, c.values); x != c.x || ok != c.ok {
			t.Errorf("Join(%v, %v): %#x and %v", c.widths, c.values, x, ok)
		}
	}
	for _, c := range []struct {
		widths []int
		x      uint64
		values []uint64
		ok     bool
	}{
		{[]int{4, 12}, 83, []uint64{3, 5}, true}, {nil, 0, nil, true}, {[]int{64}, full, []uint64{full}, true}, {[]int{1, 62, 1}, 1<<63 + 2, []uint64{0, 1, 1}, true},
		{nil, 1, nil, false}, {[]int{}, 1 << 63, nil, false}, {[]int{4, 4}, 256, nil, false}, {[]int{63}, 1 << 63, nil, false}, {[]int{0}, 0, nil, false}, {[]int{32, 33}, 0, nil, false},
	} {
		if l, ok := Split(c.widths, c.x); !slices.Equal(l, c.values) || ok != c.ok {
			t.Errorf("Split(%v, %#x): %v and %v", c.widths, c.x, l, ok)
		}
	}
}

// What is handed in is not changed, its spare room neither, and what Split answers is the asker's own.
func TestP2_2Memory(t *testing.T) {
	widths, values := []int{4, 12, 99}, []uint64{3, 5, 98}
	one, _ := Split(widths[:2], 83)
	Join(widths[:2], values[:2])
	Join(widths, values)
	Split(widths, 83)
	if !slices.Equal(widths, []int{4, 12, 99}) || !slices.Equal(values, []uint64{3, 5, 98}) {
		t.Error("an argument was changed:", widths, values)
	}
	two, _ := Split(widths[:2], 83)
	one[0] = 97
	_ = append(one[:1], 96)
	if three, _ := Split(widths[:2], 83); !slices.Equal(two, []uint64{3, 5}) || !slices.Equal(three, []uint64{3, 5}) {
		t.Error("an answer of Split shares memory with another one:", two, three)
	}
}

func TestP2_3SplitOfJoined(t *testing.T) {
	for _, w := range layouts() {
		for _, x := range words() {
			values := valuesOf(w, x)
			joined, ok := Join(w, values)
			if !ok {
				t.Fatalf("Join(%v, %v): false", w, values)
			}
			if l, ok := Split(w, joined); !slices.Equal(l, values) || !ok {
				t.Fatalf("Split(%v, %#x): %v and %v, not %v", w, joined, l, ok, values)
			}
		}
	}
}

// Joined, each value is where Get finds it, and the word is the one that Put makes, field by field.
func TestP2_3FieldsOfJoined(t *testing.T) {
	for _, w := range layouts() {
		values := valuesOf(w, 0x9e3779b97f4a7c15)
		joined, _ := Join(w, values)
		at, made := 0, uint64(0)
		for i, n := range w {
			if got := Get(joined, at, n); got != values[i] {
				t.Fatalf("field %d of %v: %#x, not %#x", i, w, got, values[i])
			}
			made = Put(made, at, n, values[i])
			at += n
		}
		if made != joined {
			t.Fatalf("Join(%v, %v): %#x, by Put %#x", w, values, joined, made)
		}
	}
}
