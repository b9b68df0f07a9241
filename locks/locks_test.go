package locks

import (
	"math"
	"slices"
	"testing"

	"trencher/api"
)

// Which calls of a table there are.
const (
	take = iota
	leave
	drop
)

// call of a table.
type call struct{ kind, lock, who int }

// on does the call; a Drop is always OK.
func (c call) on(x *Table) api.Errno {
	switch c.kind {
	case take:
		return x.Take(c.lock, c.who)
	case leave:
		return x.Leave(c.lock, c.who)
	}
	x.Drop()
	return api.OK
}

// plain is what a table should be: of the locks that somebody has who that is.
type plain struct {
	locks int
	has   map[int]int
	taken int64
}

// newPlain is a plain table of n locks that nobody has.
func newPlain(n int) *plain {
	return &plain{locks: n, has: map[int]int{}}
}

// do is what a call should tell, and what it should turn.
func (p *plain) do(c call) api.Errno {
	if c.kind == drop {
		p.has = map[int]int{}
		return api.OK
	}
	if c.lock < 0 || c.lock >= p.locks || c.who < 0 {
		return api.ErrArg
	}
	owner, had := p.has[c.lock]
	if c.kind == take {
		if had {
			return api.ErrSet
		}
		p.has[c.lock] = c.who
		p.taken++
		return api.OK
	}
	if !had || owner != c.who {
		return api.ErrNone
	}
	delete(p.has, c.lock)
	return api.OK
}

// owner is what Owner should tell.
func (p *plain) owner(lock int) int {
	if who, had := p.has[lock]; had {
		return who
	}
	return -1
}

// of is what Of should tell.
func (p *plain) of(who int) []int {
	var l []int
	for lock, one := range p.has {
		if one == who {
			l = append(l, lock)
		}
	}
	slices.Sort(l)
	return l
}

// whos are those who may act: neighbours, and some that are alike in their lowest 8, 16, 31 or 32 bits.
func whos() []int {
	return []int{0, 1, 2, 3, 15, 16, 127, 128, 255, 256, 257, 65535, 65536, math.MaxInt32, math.MaxInt32 + 1, math.MaxUint32, math.MaxUint32 + 1, math.MaxUint32 + 2, math.MaxInt - 1, math.MaxInt}
}

// noWhos are those who may not act.
func noWhos() []int {
	return []int{-1, -2, -3, -255, -256, -65536, math.MinInt32, -math.MaxUint32, -math.MaxUint32 - 1, math.MinInt + 1, math.MinInt}
}

// noLocks are locks that a table of n doesn't have, some of them alike in their lowest bits to those that it has.
func noLocks(n int) []int {
	return []int{-1, -2, -n, -n - 1, -16, -256, math.MinInt32, -math.MaxUint32 - 1, math.MinInt, math.MinInt + 1, n, n + 1, 16, 17, 256, 256 + n - 1, 65536, math.MaxInt32, math.MaxUint32 + 1, math.MaxUint32 + n, math.MaxInt - 1, math.MaxInt}
}

// table is a new one of n locks.
func table(t *testing.T, n int) *Table {
	t.Helper()
	x := New(n)
	if x == nil {
		t.Fatalf("New(%d): nil", n)
	}
	return x
}

// same holds all that a table tells against what it should be.
func same(t *testing.T, what any, x *Table, p *plain) {
	t.Helper()
	if n := x.Len(); n != p.locks {
		t.Fatalf("%v: Len: %d, not %d", what, n, p.locks)
	}
	for lock := range p.locks {
		if who := x.Owner(lock); who != p.owner(lock) {
			t.Fatalf("%v: Owner(%d): %d, not %d", what, lock, who, p.owner(lock))
		}
	}
	for _, lock := range noLocks(p.locks) {
		if who := x.Owner(lock); who != -1 {
			t.Fatalf("%v: Owner(%d) of %d locks: %d", what, lock, p.locks, who)
		}
	}
	for _, who := range whos() {
		if l := x.Of(who); !slices.Equal(l, p.of(who)) {
			t.Fatalf("%v: Of(%d): %v, not %v", what, who, l, p.of(who))
		}
	}
	for _, who := range noWhos() {
		if l := x.Of(who); len(l) != 0 {
			t.Fatalf("%v: Of(%d): %v", what, who, l)
		}
	}
	if n := x.Taken(); n != p.taken {
		t.Fatalf("%v: Taken: %d, not %d", what, n, p.taken)
	}
}

// done does the calls on a new table of n locks, and holds it against the plain one behind each of them.
func done(t *testing.T, n int, calls ...call) (*Table, *plain) {
	t.Helper()
	x, p := table(t, n), newPlain(n)
	same(t, n, x, p)
	for i, c := range calls {
		both(t, i, x, p, c)
	}
	return x, p
}

// both does the call on a table and on the plain one, and holds them against each other.
func both(t *testing.T, what any, x *Table, p *plain, c call) {
	t.Helper()
	want := p.do(c)
	if code := c.on(x); code != want {
		t.Fatalf("%v: %v: %d, not %d", what, c, code, want)
	}
	same(t, what, x, p)
}

// step is a call and what it tells.
type step struct {
	call
	want api.Errno
}

// told does the calls on a new table of n locks, which tell what is written beside them, and holds it against the plain one behind each of them.
func told(t *testing.T, n int, steps ...step) {
	t.Helper()
	x, p := table(t, n), newPlain(n)
	for i, s := range steps {
		if want := p.do(s.call); want != s.want {
			t.Fatalf("%d: %v: the plain table tells %d, not %d", i, s.call, want, s.want)
		}
		if code := s.call.on(x); code != s.want {
			t.Fatalf("%d: %v: %d, not %d", i, s.call, code, s.want)
		}
		same(t, i, x, p)
	}
}

// mixed are n numbers that look as if they were by chance, the same each time for the same seed.
func mixed(seed uint64, n int) []uint64 {
	var l []uint64
	x := seed*0x9e3779b97f4a7c15 + 1
	for range n {
		x = x*6364136223846793005 + 1442695040888963407
		l = append(l, (x^x>>29)>>11)
	}
	return l
}

// mixedCalls are many calls of a table of n locks, most of them right ones by three who act, now and then a wrong one, or a Drop.
func mixedCalls(seed uint64, n, many int) []call {
	var l []call
	for _, m := range mixed(seed, many) {
		c := call{kind: int(m % 2), lock: int(m / 2 % uint64(n)), who: int(m / 64 % 3)}
		switch m / 256 % 32 {
		case 0:
			c.kind = drop
		case 1:
			c.lock = noLocks(n)[m/8192%uint64(len(noLocks(n)))]
		case 2:
			c.who = noWhos()[m/8192%uint64(len(noWhos()))]
		case 3:
			c.who = whos()[m/8192%uint64(len(whos()))]
		}
		l = append(l, c)
	}
	return l
}

func TestP15_1New(t *testing.T) {
	for n := 1; n <= 16; n++ {
		same(t, n, table(t, n), newPlain(n))
		for lock := range n {
			done(t, n, call{take, lock, 0}, call{leave, lock, 0})
		}
	}
}

func TestP15_1NoSuchTable(t *testing.T) {
	for _, n := range []int{0, 17, 18, 32, 64, 255, 256, 257, 65536, 65537, math.MaxInt32, math.MaxUint32 + 1, math.MaxUint32 + 2, math.MaxUint32 + 17, math.MaxInt - 1, math.MaxInt, -1, -2, -15, -16, -17, -255, -256, math.MinInt32, -math.MaxUint32, math.MinInt, math.MinInt + 1, math.MinInt + 2} {
		if x := New(n); x != nil {
			t.Errorf("New(%d): a table of %d", n, x.Len())
		}
	}
}

func TestP15_1Nil(t *testing.T) {
	var x *Table
	numbers := slices.Concat(noLocks(16), noWhos(), whos())
	for range 2 { // nor has the first time turned anything
		if n := x.Len(); n != 0 {
			t.Error("Len:", n)
		}
		if n := x.Taken(); n != 0 {
			t.Error("Taken:", n)
		}
		for _, a := range numbers {
			if who := x.Owner(a); who != -1 {
				t.Errorf("Owner(%d): %d", a, who)
			}
			if l := x.Of(a); len(l) != 0 {
				t.Errorf("Of(%d): %v", a, l)
			}
			for _, b := range numbers {
				if code := x.Take(a, b); code != api.ErrArg {
					t.Errorf("Take(%d, %d): %d", a, b, code)
				}
				if code := x.Leave(a, b); code != api.ErrArg {
					t.Errorf("Leave(%d, %d): %d", a, b, code)
				}
			}
		}
		x.Drop()
	}
}

func TestP15_2TakeAndLeave(t *testing.T) {
	for _, n := range []int{1, 2, 5, 16} {
		for _, lock := range []int{0, n / 2, n - 1} {
			told(t, n,
				step{call{leave, lock, 0}, api.ErrNone},
				step{call{take, lock, 0}, api.OK},
				step{call{take, lock, 0}, api.ErrSet},
				step{call{take, lock, 1}, api.ErrSet},
				step{call{leave, lock, 1}, api.ErrNone},
				step{call{leave, lock, 0}, api.OK},
				step{call{leave, lock, 0}, api.ErrNone},
				step{call{take, lock, 1}, api.OK},
				step{call{leave, lock, 0}, api.ErrNone},
				step{call{take, lock, 0}, api.ErrSet},
				step{call{take, lock, 1}, api.ErrSet},
				step{call{leave, lock, 1}, api.OK},
				step{call{take, lock, 1}, api.OK},
				step{call{leave, lock, 1}, api.OK},
				step{call{take, lock, 0}, api.OK},
			)
		}
	}
}

func TestP15_2Several(t *testing.T) {
	told(t, 4,
		step{call{take, 0, 5}, api.OK},
		step{call{take, 3, 0}, api.OK},
		step{call{take, 1, 5}, api.OK},
		step{call{take, 1, 0}, api.ErrSet},
		step{call{leave, 3, 5}, api.ErrNone},
		step{call{leave, 0, 5}, api.OK},
		step{call{take, 0, 0}, api.OK},
		step{call{take, 0, 5}, api.ErrSet},
		step{call{leave, 2, 0}, api.ErrNone},
		step{call{take, 2, 7}, api.OK},
		step{call{leave, 3, 0}, api.OK},
		step{call{leave, 1, 5}, api.OK},
		step{call{leave, 0, 0}, api.OK},
		step{call{leave, 2, 7}, api.OK},
	)
}

// The last lock that nobody has is taken as any other; then none can be.
func TestP15_2LastFree(t *testing.T) {
	for n := 1; n <= 16; n++ {
		for last := range n {
			x, p := done(t, n)
			for lock := range n {
				if lock != last {
					both(t, n, x, p, call{take, lock, lock % 2})
				}
			}
			if code := x.Take(last, 2); code != api.OK {
				t.Fatalf("%d locks: Take(%d, 2): %d", n, last, code)
			}
			p.do(call{take, last, 2})
			for lock := range n {
				for who := range 4 {
					if code := x.Take(lock, who); code != api.ErrSet {
						t.Fatalf("all of %d had: Take(%d, %d): %d", n, lock, who, code)
					}
				}
			}
			same(t, "all had", x, p)
		}
	}
}

// Whoever has a lock, each one else is somebody else, however alike the numbers are.
func TestP15_2Whos(t *testing.T) {
	for _, a := range whos() {
		for _, b := range whos() {
			x, p := done(t, 2, call{take, 1, a})
			both(t, a, x, p, call{take, 1, b})
			both(t, a, x, p, call{leave, 1, b})
			if had := x.Owner(1) == a; had != (a != b) {
				t.Fatalf("%d has it behind Leave by %d: %v", a, b, had)
			}
		}
	}
}

// Each call there is, on each table of one, two or three locks, each of which nobody has, or one of three.
func TestP15_2EachTable(t *testing.T) {
	for n := 1; n <= 3; n++ {
		for _, had := range allHad(n) {
			for _, c := range allCalls(n) {
				x, p := done(t, n)
				for lock, who := range had {
					if who >= 0 {
						x.Take(lock, who)
						p.do(call{take, lock, who})
					}
				}
				same(t, had, x, p)
				both(t, had, x, p, c)
			}
		}
	}
}

// allHad are all the ways in which n locks may be had: by nobody (-1), or by 0, 1 or 2.
func allHad(n int) [][]int {
	if n == 0 {
		return [][]int{nil}
	}
	var l [][]int
	for _, had := range allHad(n - 1) {
		for who := -1; who <= 2; who++ {
			l = append(l, append(slices.Clone(had), who))
		}
	}
	return l
}

// allCalls are the calls of a table of n locks, right and wrong, by some who may act, and by some who may not.
func allCalls(n int) []call {
	l := []call{{drop, 0, 0}}
	for lock := -2; lock <= n+1; lock++ {
		for who := -2; who <= 3; who++ {
			l = append(l, call{take, lock, who}, call{leave, lock, who})
		}
	}
	return l
}

// wrongs are a lock and who, where there is no such lock, or who may not act, or both.
func wrongs(n int) [][2]int {
	var l [][2]int
	for _, lock := range noLocks(n) {
		for _, who := range slices.Concat(whos(), noWhos()) {
			l = append(l, [2]int{lock, who})
		}
	}
	for lock := range n {
		for _, who := range noWhos() {
			l = append(l, [2]int{lock, who})
		}
	}
	return l
}

// Of wrong numbers ErrArg is told, whether the lock is had or isn't, and the table is as it was.
func TestP15_2Wrong(t *testing.T) {
	for _, n := range []int{1, 3, 16} {
		for had := 0; had <= n; had++ {
			x, p := done(t, n)
			for lock := range had {
				both(t, n, x, p, call{take, lock, 0})
			}
			for _, w := range wrongs(n) {
				if code := x.Take(w[0], w[1]); code != api.ErrArg {
					t.Fatalf("%d of %d had: Take(%d, %d): %d", had, n, w[0], w[1], code)
				}
				if code := x.Leave(w[0], w[1]); code != api.ErrArg {
					t.Fatalf("%d of %d had: Leave(%d, %d): %d", had, n, w[0], w[1], code)
				}
			}
			same(t, "wrong", x, p)
		}
	}
}

func TestP15_3Drop(t *testing.T) {
	for n := 1; n <= 16; n++ {
		for had := 0; had <= n; had++ {
			x, p := done(t, n)
			for i := range had {
				both(t, n, x, p, call{take, n - 1 - i, i % 3})
			}
			both(t, "Drop", x, p, call{drop, 0, 0})
			both(t, "Drop anew", x, p, call{drop, 0, 0})
			if k := x.Taken(); k != int64(had) {
				t.Fatalf("%d of %d had, dropped: Taken: %d", had, n, k)
			}
			for lock := range n {
				if code := x.Leave(lock, 0); code != api.ErrNone {
					t.Fatalf("%d of %d had, dropped: Leave(%d, 0): %d", had, n, lock, code)
				}
			}
			for lock := range n {
				if code := x.Take(lock, 3); code != api.OK {
					t.Fatalf("%d of %d had, dropped: Take(%d, 3): %d", had, n, lock, code)
				}
				p.do(call{take, lock, 3})
				same(t, "taken behind Drop", x, p)
			}
		}
	}
}

// Each set of locks of a table, taken in this order and in the other one, is told rising.
func TestP15_3Of(t *testing.T) {
	const n = 6
	for set := range 1 << n {
		var own, others []int
		for lock := range n {
			if set>>lock&1 == 1 {
				own = append(own, lock)
			} else {
				others = append(others, lock)
			}
		}
		for _, backward := range []bool{false, true} {
			x := table(t, n)
			order := slices.Clone(own)
			if backward {
				slices.Reverse(order)
			}
			for _, lock := range order {
				x.Take(lock, 4)
			}
			for _, lock := range others {
				x.Take(lock, 0)
			}
			if l := x.Of(4); !slices.Equal(l, own) {
				t.Fatalf("Of(4), who has %v: %v", own, l)
			}
			if l := x.Of(0); !slices.Equal(l, others) {
				t.Fatalf("Of(0), who has %v: %v", others, l)
			}
			if l := x.Of(1); len(l) != 0 {
				t.Fatalf("Of(1), who has none: %v", l)
			}
		}
	}
}

// What a caller does with an answer of Of turns neither the table nor another answer, its spare room neither.
func TestP15_3OfIsNew(t *testing.T) {
	for n := 1; n <= 16; n++ {
		x, p := done(t, n)
		for lock := range n {
			both(t, n, x, p, call{take, lock, lock / 2 % 2})
		}
		kept := x.Of(0)
		want := slices.Clone(kept)
		for range 3 {
			l := x.Of(0)
			l = l[:cap(l)]
			for i := range l {
				l[i] = -7 - i
			}
			x.Of(0)[0] = 9
			same(t, "Of turned", x, p)
			if !slices.Equal(kept, want) {
				t.Fatalf("%d locks: an earlier answer turned to %v", n, kept)
			}
		}
		x.Drop()
		if !slices.Equal(kept, want) {
			t.Fatalf("%d locks: Drop turned an answer to %v", n, kept)
		}
	}
}

func TestP15_3Taken(t *testing.T) {
	x := table(t, 2)
	for i, c := range []struct {
		call
		want int64
	}{
		{call{leave, 0, 0}, 0}, {call{take, 2, 0}, 0}, {call{take, -1, 0}, 0}, {call{take, 0, -1}, 0},
		{call{take, 0, 0}, 1}, {call{take, 0, 0}, 1}, {call{take, 0, 1}, 1}, {call{leave, 0, 1}, 1},
		{call{take, 1, 1}, 2}, {call{leave, 0, 0}, 2}, {call{take, 0, 1}, 3}, {call{drop, 0, 0}, 3},
		{call{leave, 0, 1}, 3}, {call{take, 0, 1}, 4}, {call{leave, 0, 1}, 4}, {call{take, 0, 1}, 5},
	} {
		c.on(x)
		if k := x.Taken(); k != c.want {
			t.Errorf("%d: behind %v: Taken: %d, not %d", i, c.call, k, c.want)
		}
	}
}

// It is counted beyond what fewer than 32 bits hold.
func TestP15_3TakenOften(t *testing.T) {
	x := table(t, 1)
	const many = 1<<16 + 5
	for i := range many {
		if x.Take(0, i) != api.OK || x.Leave(0, i) != api.OK {
			t.Fatalf("%d: not taken and left", i)
		}
	}
	if k := x.Taken(); k != many {
		t.Errorf("Taken: %d, not %d", k, many)
	}
}

// Whatever is done, each lock that somebody has is told of just that one.
func TestP15_4NeverTwos(t *testing.T) {
	for n := 1; n <= 16; n++ {
		x := table(t, n)
		for i, c := range mixedCalls(uint64(n), n, 600) {
			c.on(x)
			var owners []int
			for lock := range n {
				owners = append(owners, x.Owner(lock))
			}
			times := make([]int, n)
			for _, who := range whos() {
				for _, lock := range x.Of(who) {
					times[lock]++
					if owners[lock] != who {
						t.Fatalf("%d locks, %d: Of(%d) has %d, which is %d's", n, i, who, lock, owners[lock])
					}
				}
			}
			for lock, who := range owners {
				if (times[lock] == 1) != (who >= 0) || times[lock] > 1 {
					t.Fatalf("%d locks, %d: lock %d of %d is told of %d", n, i, lock, who, times[lock])
				}
			}
		}
	}
}

// Who takes locks and leaves them, in whatever order, leaves all as it was, but for how often locks were taken.
func TestP15_4AsItWas(t *testing.T) {
	for n := 1; n <= 16; n++ {
		x, p := table(t, n), newPlain(n)
		for i, c := range mixedCalls(uint64(n)+50, n, 200) {
			both(t, i, x, p, c)
			for _, who := range []int{0, 1, 2, 9, math.MaxInt} {
				var took []int
				for lock := range n {
					if x.Take(lock, who) == api.OK {
						took = append(took, lock)
						p.taken++
					}
				}
				if i%2 == 0 {
					slices.Reverse(took)
				}
				for _, lock := range took {
					if code := x.Leave(lock, who); code != api.OK {
						t.Fatalf("%d locks, %d: Leave(%d, %d): %d", n, i, lock, who, code)
					}
				}
			}
			same(t, "taken and left", x, p)
		}
	}
}

func TestP15_PlainModel(t *testing.T) {
	for n := 1; n <= 16; n++ {
		for seed := range uint64(5) {
			done(t, n, mixedCalls(seed*100+uint64(n), n, 300)...)
		}
	}
}

// Tables don't turn one another, and two to which the same was done tell the same.
func TestP15_Apart(t *testing.T) {
	x, p := done(t, 3, call{take, 0, 1}, call{take, 2, 0})
	y, q := done(t, 3, call{take, 1, 1})
	both(t, "x", x, p, call{take, 1, 2})
	same(t, "y", y, q)
	both(t, "y", y, q, call{drop, 0, 0})
	same(t, "x", x, p)
	both(t, "y", y, q, call{take, 0, 1})
	both(t, "y", y, q, call{take, 2, 0})
	both(t, "y", y, q, call{take, 1, 2})
	for lock := range 3 {
		if x.Owner(lock) != y.Owner(lock) {
			t.Errorf("Owner(%d): %d and %d", lock, x.Owner(lock), y.Owner(lock))
		}
	}
}

func TestP15_Example(t *testing.T) {
	told(t, 2,
		step{call{take, 0, 1}, api.OK},
		step{call{take, 0, 2}, api.ErrSet},
		step{call{leave, 0, 1}, api.OK},
		step{call{take, 0, 2}, api.OK},
	)
}
