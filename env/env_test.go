package env

import (
	"errors"
	"math"
	"runtime"
	"slices"
	"testing"

	"trencher/api"
	"trencher/locks"
	"trencher/pmem"
)

// Kinds of steps.
const (
	load = iota
	store
	flush
	fence
	lock
	unlock
	do
	kinds
)

// ask is a step that is asked for: its kind, an address or a lock, a word.
type ask struct {
	kind, n int
	x       uint64
}

// asked is whom steps are asked of: an Env, or a region and a table at once.
type asked interface {
	Load(a int) uint64
	Store(a int, x uint64)
	Flush(a int)
	Fence()
	Lock(n int)
	Unlock(n int)
	Do(f func() uint64) uint64
	Who() int
}

// of asks for the step, and tells what that tells. What it does once is noted in did, and tells the word and how often that was noted.
func (s ask) of(e asked, did *[]uint64) uint64 {
	switch s.kind {
	case load:
		return e.Load(s.n)
	case store:
		e.Store(s.n, s.x)
	case flush:
		e.Flush(s.n)
	case fence:
		e.Fence()
	case lock:
		e.Lock(s.n)
	case unlock:
		e.Unlock(s.n)
	case do:
		return e.Do(func() uint64 {
			*did = append(*did, s.x)
			return s.x + uint64(len(*did))
		})
	}
	return 0
}

// atOnce does steps on a region and a table at once.
type atOnce struct {
	r       *pmem.Region
	l       *locks.Table
	who     int
	blocked bool
}

func (e *atOnce) Load(a int) uint64 {
	x, _ := e.r.Load(a)
	return x
}
func (e *atOnce) Store(a int, x uint64)     { e.r.Store(a, x) }
func (e *atOnce) Flush(a int)               { e.r.Flush(a) }
func (e *atOnce) Fence()                    { e.r.Fence() }
func (e *atOnce) Lock(n int)                { e.blocked = e.l.Take(n, e.who) != api.OK }
func (e *atOnce) Unlock(n int)              { e.l.Leave(n, e.who) }
func (e *atOnce) Do(f func() uint64) uint64 { return f() }
func (e *atOnce) Who() int                  { return e.who }

// program tells which step comes next, by what those ahead told; false at its end.
type program func(told []uint64) (ask, bool)

// row is the program of these steps, whatever they tell.
func row(l ...ask) program {
	return func(told []uint64) (ask, bool) {
		if len(told) >= len(l) {
			return ask{}, false
		}
		return l[len(told)], true
	}
}

// on does the program, and answers all that it was told, and who that was.
func (p program) on(e asked, did *[]uint64) []uint64 {
	var told []uint64
	for s, more := p(nil); more; s, more = p(told) {
		told = append(told, s.of(e, did))
	}
	return append(told, uint64(e.Who()))
}

// plain is what a run of a program should be, without letting anything go anew.
type plain struct {
	p    program
	e    *atOnce
	told []uint64
	did  []uint64
	over bool
}

// step is what Step should tell, and do.
func (x *plain) step() int {
	s, more := x.p(x.told)
	if x.over = !more; x.over {
		return Over
	}
	x.e.blocked = false
	y := s.of(x.e, &x.did)
	if x.e.blocked {
		return Blocked
	}
	x.told = append(x.told, y)
	_, more = x.p(x.told)
	x.over = !more
	return Stepped
}

// all is what All should tell, and do.
func (x *plain) all(fuse int) api.Errno {
	for n := 0; ; n++ {
		if _, more := x.p(x.told); !more {
			x.over = true
			return api.OK
		}
		if n == fuse {
			return api.ErrPower
		}
		if x.step() == Blocked {
			return api.ErrSet
		}
	}
}

// answer is what Answer should tell.
func (x *plain) answer() []uint64 {
	if !x.over {
		return nil
	}
	return append(slices.Clone(x.told), uint64(x.e.who))
}

// Sizes of the worlds' regions and tables.
const (
	size  = 24
	table = 3
)

// world is a region and a table, runs of programs over them, and what all that should be.
type world struct {
	t      *testing.T
	r, r2  *pmem.Region
	l, l2  *locks.Table
	runs   []*Run
	plains []*plain
	did    [][]uint64
}

// first are the words that a world's region has at first.
func first() []uint64 {
	var l []uint64
	for a := range size {
		l = append(l, uint64(a*a+100))
	}
	return l
}

// newWorld is a world of these programs' runs, by 0, 1 ..
func newWorld(t *testing.T, programs ...program) *world {
	w := &world{t: t, r: pmem.Of(first()), r2: pmem.Of(first()), l: locks.New(table), l2: locks.New(table)}
	w.did = make([][]uint64, len(programs))
	for who, p := range programs {
		w.runs = append(w.runs, New(w.r, w.l, who, func(e *Env) []uint64 { return p.on(e, &w.did[who]) }))
		w.plains = append(w.plains, &plain{p: p, e: &atOnce{r: w.r2, l: w.l2, who: who}})
	}
	return w
}

// same holds all that there is to see against what it should be.
func (w *world) same(what any) {
	w.t.Helper()
	sameRegion(w.t, what, w.r, w.r2)
	sameTable(w.t, what, w.l, w.l2)
	for i, x := range w.runs {
		p := w.plains[i]
		if x.Over() != p.over || x.Steps() != len(p.told) {
			w.t.Fatalf("%v: run %d: over %v behind %d steps, not %v behind %d", what, i, x.Over(), x.Steps(), p.over, len(p.told))
		}
		if l := x.Answer(); !slices.Equal(l, p.answer()) {
			w.t.Fatalf("%v: run %d: Answer: %v, not %v", what, i, l, p.answer())
		}
		if !slices.Equal(w.did[i], p.did) {
			w.t.Fatalf("%v: run %d: did %v, not %v", what, i, w.did[i], p.did)
		}
	}
}

// sameRegion holds a region against another one.
func sameRegion(t *testing.T, what any, r, r2 *pmem.Region) {
	t.Helper()
	if !slices.Equal(r.Seen(), r2.Seen()) {
		t.Fatalf("%v: %v is seen, not %v", what, r.Seen(), r2.Seen())
	}
	if !slices.Equal(r.Kept(), r2.Kept()) {
		t.Fatalf("%v: %v is kept, not %v", what, r.Kept(), r2.Kept())
	}
	if r.Steps() != r2.Steps() {
		t.Fatalf("%v: %d steps of the region, not %d", what, r.Steps(), r2.Steps())
	}
}

// sameTable holds a table against another one.
func sameTable(t *testing.T, what any, l, l2 *locks.Table) {
	t.Helper()
	for n := range l2.Len() {
		if l.Owner(n) != l2.Owner(n) {
			t.Fatalf("%v: lock %d is %d's, not %d's", what, n, l.Owner(n), l2.Owner(n))
		}
	}
	if l.Taken() != l2.Taken() {
		t.Fatalf("%v: %d locks were taken, not %d", what, l.Taken(), l2.Taken())
	}
}

// step goes a step of a run, which should tell what its plain one does.
func (w *world) step(what any, i int) int {
	w.t.Helper()
	want := w.plains[i].step()
	if got := w.runs[i].Step(); got != want {
		w.t.Fatalf("%v: run %d: Step: %d, not %d", what, i, got, want)
	}
	w.same(what)
	return want
}

// all goes all of a run, which should tell what its plain one does.
func (w *world) all(what any, i, fuse int) api.Errno {
	w.t.Helper()
	want := w.plains[i].all(fuse)
	if got := w.runs[i].All(fuse); got != want {
		w.t.Fatalf("%v: run %d: All(%d): %d, not %d", what, i, fuse, got, want)
	}
	w.same(what)
	return want
}

// told goes a step of a run, which tells what is written here.
func (w *world) told(i, want int) {
	w.t.Helper()
	if got := w.step("told", i); got != want {
		w.t.Fatalf("run %d: Step: %d, not %d", i, got, want)
	}
}

// allTold goes all of a run, which tells what is written here.
func (w *world) allTold(i, fuse int, want api.Errno) {
	w.t.Helper()
	if got := w.all("told", i, fuse); got != want {
		w.t.Fatalf("run %d: All(%d): %d, not %d", i, fuse, got, want)
	}
}

// alone goes a program step by step to its end, or till it is blocked, and beyond it.
func alone(t *testing.T, what any, p program) *world {
	t.Helper()
	w := newWorld(t, p)
	w.same(what)
	for w.step(what, 0) == Stepped {
	}
	w.step(what, 0)
	w.step(what, 0)
	return w
}

// noAddresses are addresses that a region of so many words doesn't have.
func noAddresses() []int {
	return []int{-1, -2, -7, -8, -9, -size, math.MinInt32, math.MinInt, math.MinInt + 1, math.MinInt + 8, size, size + 1, size + 7, size + 8, 2 * size, api.MaxRegion, 1 << 32, 1<<32 + 3, math.MaxInt - 7, math.MaxInt}
}

// noLocks are locks that a table of so many doesn't have.
func noLocks() []int {
	return []int{-1, -2, -table, -16, math.MinInt32, math.MinInt, math.MinInt + 1, table, table + 1, 15, 16, 17, 256, 1 << 32, 1<<32 + 1, math.MaxInt - 1, math.MaxInt}
}

// mixed are n numbers that look as if they were by chance, the same each time for the same seed.
func mixed(seed uint64, n int) []uint64 {
	var l []uint64
	x := seed*0x9e3779b97f4a7c15 + 1
	for range n {
		x = x*6364136223846793005 + 1442695040888963407
		l = append(l, (x^x>>29)>>11)
	}
	return l
}

// part is a step of a mixed program: turned by the sum of what was told so far, and left out by some sums.
type part struct {
	ask
	turned, some bool
}

// parts is the program of these parts.
func parts(l []part) program {
	return func(told []uint64) (ask, bool) {
		sum, i := uint64(0), 0
		for _, p := range l {
			if p.some && sum%3 == 1 {
				continue
			}
			s := p.ask
			if p.turned {
				s.n = (s.n+int(sum%size)+1)%(size+2) - 1
				s.x += sum
			}
			if i == len(told) {
				return s, true
			}
			sum = sum*31 + told[i]
			i++
		}
		return ask{}, false
	}
}

// mixedProgram has about many steps of all kinds, which hang on what those ahead told; the locks are taken and left one behind the other.
func mixedProgram(seed uint64, many int) program {
	var l []part
	has := -1
	for _, x := range mixed(seed, many) {
		kind, n := int(x%kinds), int(x>>8)%size
		switch kind {
		case lock, unlock:
			if has < 0 {
				has = n % table
				l = append(l, part{ask: ask{kind: lock, n: has}})
			} else {
				l = append(l, part{ask: ask{kind: unlock, n: has}})
				has = -1
			}
		default:
			l = append(l, part{ask{kind, n, x >> 20}, x>>16%4 > 0, x>>18%4 == 0})
		}
	}
	if has >= 0 {
		l = append(l, part{ask: ask{kind: unlock, n: has}})
	}
	return parts(l)
}

// eachAsk are steps of each kind, right and wrong ones, none of which is blocked, alone.
func eachAsk() []ask {
	l := []ask{{fence, 0, 0}, {do, 0, 7}, {do, 0, math.MaxUint64}}
	for a := range size {
		l = append(l, ask{load, a, 0}, ask{store, a, uint64(a) + 1}, ask{store, a, math.MaxUint64}, ask{flush, a, 0})
	}
	for _, a := range noAddresses() {
		l = append(l, ask{load, a, 0}, ask{store, a, 5}, ask{flush, a, 0})
	}
	for n := range table {
		l = append(l, ask{lock, n, 0}, ask{unlock, n, 0})
	}
	for _, n := range noLocks() {
		l = append(l, ask{unlock, n, 0})
	}
	return l
}

// short are the steps of a few words' program under a lock.
func short() []ask {
	return []ask{{lock, 0, 0}, {load, 3, 0}, {store, 3, 7}, {do, 0, 5}, {flush, 3, 0}, {fence, 0, 0}, {unlock, 0, 0}}
}

// New does nothing: the deed isn't let go yet.
func TestP16_1New(t *testing.T) {
	for _, p := range []program{row(), row(short()...), row(ask{fence, 0, 0})} {
		lets := 0
		w := newWorld(t, p)
		x := New(w.r, w.l, 9, func(e *Env) []uint64 {
			lets++
			return p.on(e, new([]uint64))
		})
		w.same("new")
		if lets != 0 || x.Over() || x.Steps() != 0 || len(x.Answer()) != 0 {
			t.Errorf("new: let go %d times, over %v, %d steps, answer %v", lets, x.Over(), x.Steps(), x.Answer())
		}
	}
}

func TestP16_1EachKindAlone(t *testing.T) {
	for _, s := range eachAsk() {
		w := newWorld(t, row(s))
		w.told(0, Stepped)
		if !w.runs[0].Over() {
			t.Fatalf("%v: not over behind the last step", s)
		}
		w.told(0, Over)
		w.told(0, Over)
	}
}

func TestP16_1SeveralInARow(t *testing.T) {
	for _, s := range eachAsk() {
		if s.kind == lock {
			continue
		}
		for many := range 6 {
			alone(t, s, row(slices.Repeat([]ask{s}, many)...))
		}
	}
	alone(t, "locks", row(ask{lock, 0, 0}, ask{lock, 1, 0}, ask{lock, 2, 0}, ask{unlock, 1, 0}, ask{lock, 1, 0}, ask{unlock, 2, 0}))
	for _, s := range eachAsk() {
		alone(t, s, row(append([]ask{{store, 3, 1}, {flush, 3, 0}, {store, 4, 2}, {lock, 1, 0}}, s, s, ask{load, 3, 0}, s, ask{fence, 0, 0}, s)...))
	}
}

func TestP16_1Mixed(t *testing.T) {
	for seed := range uint64(300) {
		alone(t, seed, mixedProgram(seed, int(seed%40)))
	}
	alone(t, "many", mixedProgram(1000, 400))
}

// What a step was told decides which one comes next, and whether there is one.
func TestP16_1HangsOnWhatWasTold(t *testing.T) {
	chase := func(e *Env) []uint64 {
		var l []uint64
		for a := e.Load(0); a != 0; a = e.Load(int(a)) {
			if a%2 == 1 {
				e.Store(int(a)+8, e.Load(int(a)))
			}
			l = append(l, a)
		}
		return l
	}
	for _, c := range []struct {
		words, want []uint64
		steps       int
	}{
		{[]uint64{0, 0, 0, 0, 0, 0, 0, 0}, nil, 1},
		{[]uint64{2, 0, 0, 0, 0, 0, 0, 0}, []uint64{2}, 2},
		{[]uint64{7, 0, 5, 0, 0, 4, 0, 2}, []uint64{7, 2, 5, 4}, 9},
	} {
		r := pmem.Of(append(c.words, make([]uint64, 8)...))
		x := New(r, nil, 1, chase)
		for i := range c.steps {
			if w := x.Step(); w != Stepped || x.Steps() != i+1 || x.Over() != (i == c.steps-1) {
				t.Fatalf("%v: step %d: %d, %d steps, over %v", c.words, i, w, x.Steps(), x.Over())
			}
		}
		if x.Step() != Over || !slices.Equal(x.Answer(), c.want) || r.Steps() != int64(c.steps) {
			t.Errorf("%v: %v, not %v; %d steps of the region", c.words, x.Answer(), c.want, r.Steps())
		}
	}
}

// A step that was done is told as it was, whatever was stored since, or whoever took the lock.
func TestP16_1ToldAsItWas(t *testing.T) {
	r, l := pmem.New(8), locks.New(1)
	r.Store(3, 50)
	x := New(r, l, 1, func(e *Env) []uint64 {
		e.Lock(0)
		a := e.Load(3)
		e.Unlock(0)
		b := e.Load(3)
		c := e.Load(3)
		e.Store(4, a+b+c)
		return []uint64{a, b, c}
	})
	for i := range 6 {
		if w := x.Step(); w != Stepped {
			t.Fatal(i, w)
		}
		if i >= 2 {
			l.Take(0, 9)
		}
		r.Store(3, uint64(60+i))
		r.Evict(3)
	}
	if want := []uint64{60, 62, 63}; !slices.Equal(x.Answer(), want) || r.Seen()[4] != 185 || l.Owner(0) != 9 {
		t.Errorf("%v, not %v; %v; lock of %d", x.Answer(), want, r.Seen(), l.Owner(0))
	}
}

func TestP16_1NoStep(t *testing.T) {
	for _, want := range [][]uint64{nil, {}, {9}, {1, 2, 3}} {
		lets := 0
		r, l := pmem.Of(first()), locks.New(2)
		x := New(r, l, 1, func(*Env) []uint64 {
			lets++
			return want
		})
		for range 3 {
			if w := x.Step(); w != Over || !x.Over() || x.Steps() != 0 || !slices.Equal(x.Answer(), want) {
				t.Fatalf("%v: Step: %d, over %v, %d steps, answer %v", want, w, x.Over(), x.Steps(), x.Answer())
			}
		}
		if lets != 1 || r.Steps() != 0 || !slices.Equal(r.Seen(), first()) || l.Taken() != 0 {
			t.Errorf("%v: let go %d times; something was done", want, lets)
		}
	}
}

// A run that is over lets its deed go no more.
func TestP16_1OverStaysOver(t *testing.T) {
	lets := 0
	r := pmem.New(8)
	x := New(r, nil, 1, func(e *Env) []uint64 {
		lets++
		e.Store(lets%8, 1)
		return []uint64{uint64(lets)}
	})
	if w := x.Step(); w != Stepped || !x.Over() {
		t.Fatal(w)
	}
	was, seen := lets, r.Seen()
	for range 5 {
		if w := x.Step(); w != Over || lets != was || x.Steps() != 1 || r.Steps() != 1 || !slices.Equal(r.Seen(), seen) || !slices.Equal(x.Answer(), []uint64{uint64(was)}) {
			t.Fatalf("over: Step: %d, let go %d times, %d steps", w, lets, x.Steps())
		}
		if e := x.All(3); e != api.OK || lets != was || x.Steps() != 1 {
			t.Fatalf("over: All: %d, let go %d times", e, lets)
		}
	}
}

// Each time it is let go from its beginning: what it noted by itself is there anew, and that of a step which wasn't done isn't.
func TestP16_1FromItsBeginning(t *testing.T) {
	var trail []string
	x := New(pmem.New(8), nil, 1, func(e *Env) []uint64 {
		trail = append(trail, "a")
		e.Load(0)
		trail = append(trail, "b")
		e.Store(1, 1)
		trail = append(trail, "c")
		return nil
	})
	for i, want := range [][]string{{"a", "b"}, {"a", "b", "c"}} {
		trail = nil
		if w := x.Step(); w != Stepped || !slices.Equal(trail, want) {
			t.Errorf("step %d: %d, %v, not %v", i, w, trail, want)
		}
	}
}

// Blocked, a step turns nothing, however often; when the lock is left, the run goes on.
func TestP16_1Blocked(t *testing.T) {
	for ahead := range 4 {
		l := slices.Repeat([]ask{{store, 5, 3}}, ahead)
		l = append(l, short()...)
		w := newWorld(t, row(short()...), row(l...))
		w.told(0, Stepped)
		for range ahead {
			w.told(1, Stepped)
		}
		for range 5 {
			for range 4 {
				w.told(1, Blocked)
			}
			w.told(0, Stepped)
		}
		w.told(1, Blocked)
		w.told(0, Stepped)
		w.told(0, Over)
		for range len(short()) {
			w.told(1, Stepped)
		}
		w.told(1, Over)
	}
}

// A lock blocks who has it already as it does others, for ever.
func TestP16_1OwnLock(t *testing.T) {
	for n := range table {
		w := newWorld(t, row(ask{lock, n, 0}, ask{load, 1, 0}, ask{lock, n, 0}, ask{unlock, n, 0}))
		w.told(0, Stepped)
		w.told(0, Stepped)
		for range 10 {
			w.told(0, Blocked)
		}
		w.allTold(0, -1, api.ErrSet)
		if w.l.Owner(n) != 0 || w.runs[0].Over() {
			t.Error(n, w.l.Owner(n))
		}
	}
	// So it does where another run of the same one has it.
	r, l := pmem.New(8), locks.New(1)
	deed := func(e *Env) []uint64 {
		e.Lock(0)
		e.Unlock(0)
		return nil
	}
	a, b := New(r, l, 4, deed), New(r, l, 4, deed)
	if a.Step() != Stepped || b.Step() != Blocked || b.Step() != Blocked || a.Step() != Stepped || b.All(-1) != api.OK {
		t.Error("two runs of one")
	}
}

// A lock left by another deed, by the table's own call or by Drop lets a blocked run go on.
func TestP16_1GoesOn(t *testing.T) {
	for _, left := range []func(l *locks.Table){
		func(l *locks.Table) { l.Leave(1, 7) },
		func(l *locks.Table) { l.Drop() },
	} {
		l := locks.New(2)
		l.Take(1, 7)
		x := New(pmem.New(8), l, 0, func(e *Env) []uint64 {
			e.Lock(0)
			e.Lock(1)
			return []uint64{1}
		})
		if x.Step() != Stepped || x.Step() != Blocked || x.Step() != Blocked || x.Steps() != 1 || len(x.Answer()) != 0 {
			t.Fatal("not blocked")
		}
		left(l)
		if x.Step() != Stepped || !x.Over() || l.Owner(1) != 0 || x.Steps() != 2 || len(x.Answer()) != 1 {
			t.Error("doesn't go on")
		}
	}
}

// What a caller does with an answer, its spare room too, or the deed with the list that it answered, changes no later answer.
func TestP16_1AnswerIsNew(t *testing.T) {
	for many := 1; many < 20; many++ {
		room := mixed(uint64(many), many+1)
		was, want := slices.Clone(room), slices.Clone(room[:many])
		x := New(pmem.New(8), nil, 1, func(e *Env) []uint64 {
			e.Fence()
			return room[:many]
		})
		x.Step()
		kept := x.Answer()
		for range 3 {
			l := x.Answer()
			if !slices.Equal(l, want) || !slices.Equal(kept, want) {
				t.Fatalf("answers %v and %v, not %v", l, kept, want)
			}
			l = l[:cap(l)]
			for i := range l {
				l[i] = 99
			}
			_ = append(x.Answer(), 5, 6, 7)
		}
		if !slices.Equal(room, was) {
			t.Fatalf("the deed's list was turned: %v, not %v", room, was)
		}
		room[0]++
		if !slices.Equal(x.Answer(), want) || !slices.Equal(kept, want) {
			t.Fatalf("the deed turned the answer to %v", x.Answer())
		}
	}
}

// Ahead of its end there is no answer, and it isn't over.
func TestP16_1AheadOfTheEnd(t *testing.T) {
	const many = 50
	x := New(pmem.New(8), nil, 1, func(e *Env) []uint64 {
		var l []uint64
		for i := range many {
			e.Store(3, uint64(i))
			l = append(l, e.Load(3))
		}
		return l
	})
	for i := range 2 * many {
		if x.Over() || len(x.Answer()) != 0 || x.Steps() != i {
			t.Fatalf("behind %d steps: over %v, answer %v, Steps %d", i, x.Over(), x.Answer(), x.Steps())
		}
		if w := x.Step(); w != Stepped {
			t.Fatal(i, w)
		}
	}
	if !x.Over() || len(x.Answer()) != many || x.Answer()[many-1] != many-1 {
		t.Error(x.Answer())
	}
}

// A deed that is stopped does nothing more: what it asks for then, in a defer or behind a recover of its own, is not done.
func TestP16_1StoppedDoesNoMore(t *testing.T) {
	for name, deed := range map[string]func(e asked) []uint64{
		"deferred": func(e asked) []uint64 {
			e.Lock(0)
			defer e.Unlock(0)
			defer e.Store(2, 9)
			e.Store(3, 5)
			e.Flush(3)
			return []uint64{e.Load(3)}
		},
		"deferred literal": func(e asked) (l []uint64) {
			e.Lock(0)
			defer func() {
				e.Store(5, 1)
				l = append(l, e.Do(func() uint64 { return 4 }), e.Load(5))
				e.Unlock(0)
			}()
			return []uint64{e.Load(3), e.Load(4)}
		},
		"recovered": func(e asked) (l []uint64) {
			e.Lock(0)
			func() {
				defer func() { recover() }()
				l = append(l, e.Load(3))
				e.Store(3, 8)
			}()
			func() {
				defer func() { recover() }()
				e.Store(4, 1)
			}()
			func() {
				defer func() { recover() }()
				e.Flush(4)
				e.Unlock(0)
			}()
			return append(l, 6)
		},
		"recovered at the end": func(e asked) (l []uint64) {
			defer func() {
				recover()
				l = append(l, 3)
			}()
			e.Store(4, 1)
			e.Store(5, 1)
			return []uint64{e.Load(5)}
		},
	} {
		stepsAsAtOnce(t, name, deed)
	}
}

// stepsAsAtOnce holds a deed that goes step by step, and what programs see behind each step, against the same one at once.
func stepsAsAtOnce(t *testing.T, name string, deed func(e asked) []uint64) {
	t.Helper()
	r, l := pmem.Of(first()), locks.New(table)
	var seen [][]uint64 // behind each step
	note := func() { seen = append(seen, r.Seen()) }
	want := deed(&noting{asked: &atOnce{r: r, l: l, who: 1}, note: note})
	r2, l2 := pmem.Of(first()), locks.New(table)
	x := New(r2, l2, 1, func(e *Env) []uint64 { return deed(e) })
	for i, words := range seen {
		if w := x.Step(); w != Stepped || x.Steps() != i+1 || !slices.Equal(r2.Seen(), words) {
			t.Fatalf("%s: step %d: %d, %d steps, %v, not %v", name, i, w, x.Steps(), r2.Seen(), words)
		}
		if last := i == len(seen)-1; x.Over() != last || !last && len(x.Answer()) != 0 {
			t.Fatalf("%s: behind step %d over: %v, answer %v", name, i, x.Over(), x.Answer())
		}
	}
	if w := x.Step(); w != Over || !slices.Equal(x.Answer(), want) {
		t.Fatalf("%s: %d, %v, not %v", name, w, x.Answer(), want)
	}
	sameRegion(t, name, r2, r)
	sameTable(t, name, l2, l)
}

// noting is asked for steps, each of which is noted when it was done.
type noting struct {
	asked
	note func()
}

func (n *noting) Load(a int) uint64 {
	defer n.note()
	return n.asked.Load(a)
}

func (n *noting) Store(a int, x uint64) {
	defer n.note()
	n.asked.Store(a, x)
}

func (n *noting) Flush(a int) {
	defer n.note()
	n.asked.Flush(a)
}

func (n *noting) Fence() {
	defer n.note()
	n.asked.Fence()
}

func (n *noting) Lock(k int) {
	defer n.note()
	n.asked.Lock(k)
}

func (n *noting) Unlock(k int) {
	defer n.note()
	n.asked.Unlock(k)
}

func (n *noting) Do(f func() uint64) uint64 {
	defer n.note()
	return n.asked.Do(f)
}

// A deed that is blocked does nothing more either, in a defer or behind a recover.
func TestP16_1BlockedDoesNoMore(t *testing.T) {
	r, l := pmem.New(8), locks.New(2)
	l.Take(1, 5)
	did := 0
	x := New(r, l, 0, func(e *Env) []uint64 {
		e.Lock(0)
		defer e.Unlock(0)
		defer e.Do(func() uint64 {
			did++
			return 0
		})
		func() {
			defer func() { recover() }()
			e.Lock(1)
		}()
		e.Store(3, 1)
		e.Unlock(1)
		return []uint64{1}
	})
	if w := x.Step(); w != Stepped {
		t.Fatal(w)
	}
	for range 3 {
		if w, e := x.Step(), x.All(-1); w != Blocked || e != api.ErrSet || x.Steps() != 1 || x.Over() || did != 0 || r.Steps() != 0 || l.Owner(0) != 0 || l.Owner(1) != 5 || l.Taken() != 2 {
			t.Fatalf("blocked: %d, %d, %d steps, over %v", w, e, x.Steps(), x.Over())
		}
	}
	l.Leave(1, 5)
	if e := x.All(-1); e != api.OK || did != 1 || x.Steps() != 6 || r.Seen()[3] != 1 || l.Owner(0) != -1 || l.Owner(1) != -1 {
		t.Error(e, did, x.Steps())
	}
}

// orders are all orders in which so many picks of each run may come.
func orders(picks ...int) [][]int {
	var l [][]int
	for i, n := range picks {
		if n == 0 {
			continue
		}
		rest := slices.Clone(picks)
		rest[i]--
		for _, o := range orders(rest...) {
			l = append(l, append([]int{i}, o...))
		}
	}
	if l == nil {
		return [][]int{nil}
	}
	return l
}

// pickedIn goes the runs' steps in that order, and then all that is left, in turn.
func pickedIn(t *testing.T, order []int, programs ...program) {
	t.Helper()
	w := newWorld(t, programs...)
	for _, i := range order {
		w.step(order, i)
	}
	for range 400 {
		over := true
		for i := range programs {
			over = w.step(order, i) == Over && over
		}
		if over {
			return
		}
	}
	t.Fatalf("%v: not over", order)
}

func TestP16_1TwoRunsInEachOrder(t *testing.T) {
	bare := []ask{{load, 3, 0}, {store, 3, 9}, {flush, 3, 0}, {fence, 0, 0}, {do, 0, 2}}
	turning := parts([]part{{ask{load, 3, 0}, false, false}, {ask{store, 2, 1}, true, false}, {ask{load, 5, 0}, true, false}, {ask{store, 3, 1}, true, true}, {ask{flush, 3, 0}, false, false}})
	for _, order := range orders(5, 5) {
		pickedIn(t, order, row(bare...), turning)
		pickedIn(t, order, row(short()...), row(short()...))
		pickedIn(t, order, row(short()[:5]...), row(ask{store, 3, 1}, ask{unlock, 0, 0}, ask{load, 3, 0}), row(ask{unlock, 0, 0}))
	}
}

func TestP16_1ThreeRunsInEachOrder(t *testing.T) {
	locked := row(ask{lock, 1, 0}, ask{load, 3, 0}, ask{unlock, 1, 0})
	turning := parts([]part{{ask{lock, 1, 0}, false, false}, {ask{load, 3, 0}, false, false}, {ask{store, 2, 1}, true, false}, {ask{unlock, 1, 0}, false, false}})
	for _, order := range orders(3, 3, 2) {
		pickedIn(t, order, locked, turning, row(ask{store, 3, 4}, ask{do, 0, 1}))
	}
	for _, order := range orders(2, 2, 1, 2) {
		pickedIn(t, order, locked, turning, row(ask{store, 3, 4}, ask{do, 0, 1}), turning)
	}
}

// Two to four runs of mixed programs, picked as if by chance: step by step, or several at a time.
func TestP16_1RunsInMixedOrders(t *testing.T) {
	for seed := range uint64(300) {
		var programs []program
		for i := range 2 + seed%3 {
			programs = append(programs, mixedProgram(seed*10+i, 25))
		}
		w := newWorld(t, programs...)
		for _, x := range mixed(seed+5000, 300) {
			i := int(x>>4) % len(programs)
			if x%4 == 0 {
				w.all(seed, i, int(x>>10%7))
			} else {
				w.step(seed, i)
			}
		}
		for range 5 {
			for i := range programs {
				w.all(seed, i, -1)
			}
		}
		for i, x := range w.runs {
			if !x.Over() {
				t.Fatalf("%d: run %d isn't over", seed, i)
			}
		}
	}
}

// Runs of one deed are apart: none is told what another one was.
func TestP16_1Apart(t *testing.T) {
	r := pmem.New(8)
	deed := func(e *Env) []uint64 {
		x := e.Load(0)
		e.Store(0, x+1)
		return []uint64{x}
	}
	a, b := New(r, nil, 1, deed), New(r, nil, 1, deed)
	if a.All(-1) != api.OK || b.Steps() != 0 || b.Over() || b.All(-1) != api.OK {
		t.Fatal("not apart")
	}
	if a.Answer()[0] != 0 || b.Answer()[0] != 1 || r.Seen()[0] != 2 {
		t.Error(a.Answer(), b.Answer(), r.Seen())
	}
}

// fuses are fuses of all kinds for a deed of so many steps.
func fuses(steps int) []int {
	return []int{math.MinInt, math.MinInt + 1, math.MinInt32, -steps, -2, -1, 0, 1, steps - 1, steps, steps + 1, 2 * steps, math.MaxInt32, math.MaxInt}
}

func TestP16_2Fuses(t *testing.T) {
	for seed := range uint64(40) {
		p := mixedProgram(seed, int(seed))
		steps := alone(t, seed, p).runs[0].Steps()
		for _, fuse := range fuses(steps) {
			w := newWorld(t, p)
			want := api.OK
			if fuse >= 0 && fuse < steps {
				want = api.ErrPower
			}
			w.allTold(0, fuse, want)
			if want == api.ErrPower && w.runs[0].Steps() != fuse {
				t.Fatalf("%d: All(%d): %d steps", seed, fuse, w.runs[0].Steps())
			}
			w.all("again", 0, fuse)
			w.allTold(0, -1, api.OK)
			w.allTold(0, fuse, api.OK)
		}
	}
}

// The fuse is of one call: All again goes as many steps anew.
func TestP16_2AgainAndAgain(t *testing.T) {
	p := row(short()...)
	for fuse := 1; fuse <= len(short())+1; fuse++ {
		w := newWorld(t, p)
		for left := len(short()); left > fuse; left -= fuse {
			w.allTold(0, fuse, api.ErrPower)
			for range 3 {
				w.allTold(0, 0, api.ErrPower)
			}
		}
		w.allTold(0, fuse, api.OK)
		w.allTold(0, 0, api.OK)
	}
}

// Steps that were done ahead of the call don't burn its fuse.
func TestP16_2BehindSteps(t *testing.T) {
	for ahead := range len(short()) {
		for fuse := range len(short()) + 2 {
			w := newWorld(t, row(short()...))
			for range ahead {
				w.told(0, Stepped)
			}
			want := api.OK
			if ahead+fuse < len(short()) {
				want = api.ErrPower
			}
			w.allTold(0, fuse, want)
			if fuse < 4 {
				w.step("behind", 0)
			}
			w.allTold(0, -1, api.OK)
		}
	}
}

func TestP16_2NoStep(t *testing.T) {
	for _, fuse := range fuses(3) {
		x := New(pmem.New(8), nil, 1, func(*Env) []uint64 { return []uint64{9} })
		for range 2 {
			if e := x.All(fuse); e != api.OK || !x.Over() || x.Steps() != 0 || !slices.Equal(x.Answer(), []uint64{9}) {
				t.Fatalf("All(%d): %d, over %v, answer %v", fuse, e, x.Over(), x.Answer())
			}
		}
	}
}

// A run that is blocked, at its first step or in its midst, tells so, again and again, and goes on when the lock is left.
func TestP16_2Blocked(t *testing.T) {
	for ahead := range 4 {
		l := append(slices.Repeat([]ask{{store, 5, 3}}, ahead), short()...)
		for _, fuse := range []int{-1, math.MinInt, ahead + 1, ahead + 2, math.MaxInt} {
			w := newWorld(t, row(l...), row(ask{lock, 0, 0}, ask{load, 1, 0}, ask{unlock, 0, 0}))
			w.told(1, Stepped)
			for range 3 {
				w.allTold(0, fuse, api.ErrSet)
				w.told(0, Blocked)
				w.allTold(0, 1, api.ErrSet)
			}
			if w.runs[0].Steps() != ahead {
				t.Fatalf("%d steps, not %d", w.runs[0].Steps(), ahead)
			}
			w.allTold(1, -1, api.OK)
			w.allTold(0, 1, api.ErrPower)
			w.allTold(0, -1, api.OK)
		}
	}
}

// A fuse that is spent where the next step is blocked: no further step is tried, so that it is the power.
func TestP16_2SpentWhereBlocked(t *testing.T) {
	for ahead := range 4 {
		l := append(slices.Repeat([]ask{{store, 5, 3}}, ahead), short()...)
		w := newWorld(t, row(l...))
		w.l.Take(0, 8)
		w.l2.Take(0, 8)
		w.allTold(0, ahead, api.ErrPower)
		w.allTold(0, 0, api.ErrPower)
		w.allTold(0, 1, api.ErrSet)
		w.allTold(0, 0, api.ErrPower)
		w.allTold(0, -1, api.ErrSet)
	}
}

// One that is blocked behind the steps of this call, with fuse left, is told as blocked, and those steps stand.
func TestP16_2BlockedInItsMidst(t *testing.T) {
	w := newWorld(t, row(ask{store, 1, 5}, ask{flush, 1, 0}, ask{fence, 0, 0}, ask{lock, 0, 0}, ask{store, 2, 6}))
	w.l.Take(0, 8)
	w.l2.Take(0, 8)
	w.allTold(0, 4, api.ErrSet)
	if k := w.r.Kept(); k[1] != 5 || k[2] != first()[2] || w.runs[0].Steps() != 3 {
		t.Error(k, w.runs[0].Steps())
	}
	w.l.Drop()
	w.l2.Drop()
	w.allTold(0, 1, api.ErrPower)
	w.allTold(0, 1, api.OK)
}

// one goes a deed of a single kind of steps on a region of the first words, and tells run, region and table.
func one(t *testing.T, who int, deed func(e *Env) []uint64) (*Run, *pmem.Region, *locks.Table) {
	t.Helper()
	r, l := pmem.Of(first()), locks.New(table)
	x := New(r, l, who, deed)
	if e := x.All(-1); e != api.OK {
		t.Fatalf("All: %d", e)
	}
	return x, r, l
}

func TestP16_3Words(t *testing.T) {
	for a := range size {
		x, r, _ := one(t, 1, func(e *Env) []uint64 {
			was := e.Load(a)
			e.Store(a, 1000)
			return []uint64{was, e.Load(a)}
		})
		want := first()
		if !slices.Equal(x.Answer(), []uint64{want[a], 1000}) || x.Steps() != 3 || !slices.Equal(r.Kept(), want) {
			t.Fatalf("%d: %v, %d steps, kept %v", a, x.Answer(), x.Steps(), r.Kept())
		}
		want[a] = 1000
		if !slices.Equal(r.Seen(), want) {
			t.Fatalf("%d: seen %v", a, r.Seen())
		}
	}
}

// Of a line that was flushed and fenced, as it was when it was flushed, the words are kept, and of no other.
func TestP16_3FlushAndFence(t *testing.T) {
	for a := range size {
		for _, fenced := range []bool{false, true} {
			_, r, _ := one(t, 1, func(e *Env) []uint64 {
				for b := range size {
					e.Store(b, uint64(b)+1)
				}
				e.Flush(a)
				e.Store(a, 500)
				if fenced {
					e.Fence()
				}
				return nil
			})
			want := first()
			if fenced {
				for b := a / 8 * 8; b < a/8*8+8; b++ {
					want[b] = uint64(b) + 1
				}
			}
			if !slices.Equal(r.Kept(), want) || r.Seen()[a] != 500 {
				t.Fatalf("flush of %d, fenced %v: kept %v, not %v", a, fenced, r.Kept(), want)
			}
		}
	}
}

// At addresses that there aren't nothing is done, but it is a step.
func TestP16_3NoAddress(t *testing.T) {
	for _, a := range noAddresses() {
		x, r, _ := one(t, 1, func(e *Env) []uint64 {
			e.Store(a, 1)
			e.Flush(a)
			return []uint64{e.Load(a), e.Load(a)}
		})
		if x.Steps() != 4 || !slices.Equal(x.Answer(), []uint64{0, 0}) || r.Steps() != 0 || !slices.Equal(r.Seen(), first()) || !slices.Equal(r.Kept(), first()) {
			t.Errorf("%d: %d steps, %v, %d steps of the region", a, x.Steps(), x.Answer(), r.Steps())
		}
		r.Fence()
		if !slices.Equal(r.Kept(), first()) {
			t.Errorf("%d: kept %v", a, r.Kept())
		}
	}
}

// A lock that there isn't blocks, for ever; so does one for who may not act.
func TestP16_3NoLock(t *testing.T) {
	for _, n := range noLocks() {
		w := newWorld(t, row(ask{store, 1, 5}, ask{lock, n, 0}, ask{store, 2, 6}))
		w.told(0, Stepped)
		for range 4 {
			w.told(0, Blocked)
		}
		w.allTold(0, -1, api.ErrSet)
		w.allTold(0, 1, api.ErrSet)
		w.l.Drop()
		w.told(0, Blocked)
	}
	for _, who := range []int{-1, -2, math.MinInt} {
		l := locks.New(1)
		x := New(pmem.New(8), l, who, func(e *Env) []uint64 {
			e.Unlock(0)
			e.Lock(0)
			return nil
		})
		if x.Step() != Stepped || x.Step() != Blocked || x.All(-1) != api.ErrSet || l.Owner(0) != -1 {
			t.Errorf("by %d a lock was taken", who)
		}
	}
}

func TestP16_3Lock(t *testing.T) {
	for n := range table {
		for _, who := range []int{0, 1, 2, 300, math.MaxInt} {
			x, _, l := one(t, who, func(e *Env) []uint64 {
				e.Lock(n)
				return nil
			})
			for k := range table {
				if want := map[bool]int{true: who, false: -1}[k == n]; l.Owner(k) != want {
					t.Errorf("Lock(%d) by %d: lock %d is %d's", n, who, k, l.Owner(k))
				}
			}
			if x.Steps() != 1 || l.Taken() != 1 {
				t.Errorf("Lock(%d): %d steps, %d taken", n, x.Steps(), l.Taken())
			}
		}
	}
}

// A lock that who hasn't isn't left, but it is a step.
func TestP16_3Unlock(t *testing.T) {
	for n := -1; n <= table; n++ {
		for owner := -1; owner <= 2; owner++ {
			l := locks.New(table)
			for k := range table {
				l.Take(k, owner)
			}
			x := New(pmem.New(8), l, 1, func(e *Env) []uint64 {
				e.Unlock(n)
				return nil
			})
			if w := x.Step(); w != Stepped || x.Steps() != 1 || !x.Over() {
				t.Errorf("Unlock(%d): %d, %d steps", n, w, x.Steps())
			}
			for k := range table {
				want := owner
				if k == n && owner == 1 {
					want = -1
				}
				if l.Owner(k) != want {
					t.Errorf("Unlock(%d) by 1, all of %d: lock %d is %d's", n, owner, k, l.Owner(k))
				}
			}
		}
	}
}

// What is done once is called once, when its step is done, and tells the same later on.
func TestP16_3Do(t *testing.T) {
	calls := []int{0, 0, 0}
	number := uint64(10)
	call := func(i int) func() uint64 {
		return func() uint64 {
			calls[i]++
			number++
			return number
		}
	}
	l := locks.New(1)
	l.Take(0, 9)
	x := New(pmem.New(8), l, 1, func(e *Env) []uint64 {
		a := e.Do(call(0))
		e.Load(3)
		b := e.Do(call(1))
		e.Lock(0)
		c := e.Do(call(2))
		e.Store(1, a+b+c)
		return []uint64{a, b, c}
	})
	for i, c := range []struct {
		want  int
		calls []int
	}{
		{Stepped, []int{1, 0, 0}}, {Stepped, []int{1, 0, 0}}, {Stepped, []int{1, 1, 0}},
		{Blocked, []int{1, 1, 0}}, {Blocked, []int{1, 1, 0}}, {Stepped, []int{1, 1, 0}},
		{Stepped, []int{1, 1, 1}}, {Stepped, []int{1, 1, 1}}, {Over, []int{1, 1, 1}},
	} {
		if i == 5 {
			l.Drop()
		}
		if w := x.Step(); w != c.want || !slices.Equal(calls, c.calls) {
			t.Fatalf("step %d: %d, called %v, not %v", i, w, calls, c.calls)
		}
		number += 100
	}
	if want := []uint64{11, 212, 613}; !slices.Equal(x.Answer(), want) {
		t.Errorf("told %v, not %v", x.Answer(), want)
	}
}

// Of one that isn't asked for yet, as the fuse is spent, nothing is called.
func TestP16_3DoIsAStep(t *testing.T) {
	calls := 0
	count := func() uint64 {
		calls++
		return uint64(calls)
	}
	x := New(nil, nil, 1, func(e *Env) []uint64 {
		return []uint64{e.Do(count), e.Do(count), e.Do(count)}
	})
	for fuse, want := range []int{0, 1, 3} {
		x.All(fuse)
		if calls != want || x.Steps() != want {
			t.Fatalf("All(%d): called %d times, %d steps, not %d", fuse, calls, x.Steps(), want)
		}
	}
	if !slices.Equal(x.Answer(), []uint64{1, 2, 3}) {
		t.Error(x.Answer())
	}
}

// What is done once and panics is called just once, too; the deed is told the panic each time, and may go on behind it.
func TestP16_3DoThatPanics(t *testing.T) {
	calls := 0
	x := New(pmem.New(8), nil, 1, func(e *Env) []uint64 {
		e.Do(func() uint64 {
			calls++
			panic("mine")
		})
		return nil
	})
	for range 3 {
		if why := panicOf(func() { x.Step() }); why != "mine" || calls != 1 || x.Over() {
			t.Fatalf("panic %v, called %d times", why, calls)
		}
		if why := panicOf(func() { x.All(-1) }); why != "mine" || calls != 1 || x.Over() {
			t.Fatalf("panic %v, called %d times", why, calls)
		}
	}
	calls = 0
	stepsAsAtOnce(t, "goes on", func(e asked) (l []uint64) {
		func() {
			defer func() {
				if why, ok := recover().(string); ok {
					l = append(l, uint64(len(why)))
				} else {
					e.Load(0)
				}
			}()
			e.Do(func() uint64 {
				calls++
				panic("mine")
			})
		}()
		e.Store(3, 5)
		return append(l, e.Load(3))
	})
	if calls != 2 { // at once, and step by step
		t.Errorf("called %d times", calls)
	}
}

// What is done once is a single step: it may ask who it is, but for no steps of its own.
func TestP16_3DoAsksForNone(t *testing.T) {
	r, l := pmem.Of(first()), locks.New(1)
	calls := 0
	x := New(r, l, 6, func(e *Env) []uint64 {
		return []uint64{e.Do(func() uint64 {
			calls++
			e.Store(1, 1)
			e.Lock(0)
			return 10*uint64(e.Who()) + e.Load(3) + e.Do(func() uint64 { return 1 })
		}), e.Load(3)}
	})
	for want := range []int{1, 2} {
		if w := x.Step(); w != Stepped || x.Steps() != want+1 || calls != 1 {
			t.Fatalf("%d, %d steps, called %d times", w, x.Steps(), calls)
		}
	}
	if !slices.Equal(x.Answer(), []uint64{60, first()[3]}) || !slices.Equal(r.Seen(), first()) || l.Taken() != 0 || r.Steps() != 1 {
		t.Error(x.Answer(), r.Seen(), l.Taken())
	}
}

func TestP16_3Who(t *testing.T) {
	for _, who := range []int{0, 1, 2, 9, 1 << 32, math.MaxInt, -1, math.MinInt} {
		x := New(pmem.New(8), nil, who, func(e *Env) []uint64 {
			a := e.Who()
			e.Load(0)
			return []uint64{uint64(a), uint64(e.Who())}
		})
		if w := x.Step(); w != Stepped || x.Steps() != 1 || !slices.Equal(x.Answer(), []uint64{uint64(who), uint64(who)}) {
			t.Errorf("%d: %d, %d steps, %v", who, w, x.Steps(), x.Answer())
		}
	}
}

// An Env that a deed kept does nothing when its deed isn't let go any more, and nothing panics.
func TestP16_3KeptEnv(t *testing.T) {
	r, l := pmem.Of(first()), locks.New(1)
	var envs []*Env
	x := New(r, l, 3, func(e *Env) []uint64 {
		envs = append(envs, e)
		e.Load(0)
		for _, old := range envs[:len(envs)-1] {
			old.Store(5, 5)
		}
		e.Load(1)
		return nil
	})
	asksNothing := func() {
		for _, e := range envs {
			did := 0
			e.Store(1, 1)
			e.Flush(1)
			e.Fence()
			e.Lock(0)
			e.Unlock(0)
			y := e.Do(func() uint64 {
				did++
				return 4
			})
			if z := e.Load(0); y != 0 || z != 0 || did != 0 || e.Who() != 3 {
				t.Fatalf("kept: %d, %d, %d, %d", y, z, did, e.Who())
			}
		}
	}
	for i := range 2 {
		if w := x.Step(); w != Stepped || x.Steps() != i+1 {
			t.Fatal(w, x.Steps())
		}
		asksNothing()
	}
	if !x.Over() || r.Steps() != 2 || !slices.Equal(r.Seen(), first()) || l.Taken() != 0 {
		t.Error("a kept Env did something")
	}
}

// Without a region there is no address, without a table no lock; without a deed, or a function, there is nothing to do.
func TestP16_3Nil(t *testing.T) {
	x := New(nil, nil, 1, func(e *Env) []uint64 {
		e.Store(0, 1)
		e.Flush(0)
		e.Fence()
		e.Unlock(0)
		l := []uint64{e.Load(0), e.Do(nil)}
		e.Lock(0)
		return l
	})
	if e := x.All(6); e != api.ErrPower || x.Steps() != 6 || x.Step() != Blocked || x.All(-1) != api.ErrSet {
		t.Error(e, x.Steps())
	}
	none := New(pmem.New(8), locks.New(1), 1, nil)
	if none.Step() != Over || !none.Over() || none.Steps() != 0 || len(none.Answer()) != 0 || none.All(0) != api.OK {
		t.Error("there is no deed, but it isn't over")
	}
}

// panicOf is what f panics with; nil, if it doesn't.
func panicOf(f func()) (why any) {
	defer func() { why = recover() }()
	f()
	return
}

// alike is like the value by which a deed is stopped, but not of its type.
type alike struct{ env *Env }

// A panic of the deed's own comes out as it is: behind the steps that were done ahead of it, and again, if it is let go anew.
func TestP16_4OwnPanic(t *testing.T) {
	for _, value := range []any{"mine", 7, 0, errors.New("e"), alike{}, stop{}, api.ErrPower, [2]int{1, 2}} {
		for ahead := range 4 {
			r, l := pmem.Of(first()), locks.New(1)
			x := New(r, l, 1, func(e *Env) []uint64 {
				for a := range ahead {
					e.Store(a, 1)
				}
				panic(value)
			})
			for i := range ahead - 1 {
				if w := x.Step(); w != Stepped || x.Steps() != i+1 {
					t.Fatalf("%v: step %d: %d", value, i, w)
				}
			}
			for _, again := range []func(){func() { x.Step() }, func() { x.Step() }, func() { x.All(-1) }, func() { x.All(0) }} {
				if why := panicOf(again); why != value {
					t.Fatalf("%v: panics with %v", value, why)
				}
				if x.Steps() != ahead || r.Steps() != int64(ahead) || x.Over() || len(x.Answer()) != 0 {
					t.Fatalf("%v behind %d: %d steps, over %v", value, ahead, x.Steps(), x.Over())
				}
			}
		}
	}
}

// A fault of the deed's, which panics by itself, comes out, too; and what a deed panics with only where a step was told something.
func TestP16_4OwnFault(t *testing.T) {
	r := pmem.New(8)
	x := New(r, nil, 1, func(e *Env) []uint64 {
		var l []uint64
		return l[e.Load(3):][:1]
	})
	why := panicOf(func() { x.Step() })
	if e, ok := why.(runtime.Error); !ok || x.Steps() != 1 {
		t.Error(e, why, x.Steps())
	}
	y := New(r, nil, 1, func(e *Env) []uint64 {
		e.Store(3, 1)
		if e.Load(3) == 1 {
			panic("one")
		}
		return nil
	})
	if w := y.Step(); w != Stepped {
		t.Error(w)
	}
	if why := panicOf(func() { y.All(-1) }); why != "one" || y.Steps() != 2 || y.Over() {
		t.Error(why, y.Steps())
	}
}

// A deed that recovers from its own panics goes the same step by step as at once; so does one that asks for steps in a defer behind them.
func TestP16_4OwnRecover(t *testing.T) {
	stepsAsAtOnce(t, "recovers", func(e asked) (l []uint64) {
		func() {
			defer func() {
				if why, ok := recover().(int); ok {
					l = append(l, uint64(why))
				} else {
					e.Fence()
				}
			}()
			e.Store(3, 4)
			panic(int(e.Load(3)))
		}()
		e.Store(3, l[0]+1)
		return append(l, e.Load(3))
	})
	r, l := pmem.Of(first()), locks.New(1)
	x := New(r, l, 1, func(e *Env) []uint64 {
		e.Lock(0)
		defer e.Unlock(0)
		defer e.Store(3, 1)
		panic("mine")
	})
	if x.Step() != Stepped || x.Step() != Stepped || l.Owner(0) != 1 || r.Seen()[3] != 1 {
		t.Fatal("defers aren't steps of their own")
	}
	if why := panicOf(func() { x.Step() }); why != "mine" || l.Owner(0) != -1 || x.Steps() != 3 {
		t.Error(why, l.Owner(0), x.Steps())
	}
}

// A deed may let another deed go whose steps are asked of it: being stopped, it is told from the other one.
func TestP16_4DeedInADeed(t *testing.T) {
	stepsAsAtOnce(t, "in a deed", func(e asked) []uint64 {
		inner := New(nil, nil, 2, func(*Env) []uint64 {
			e.Store(3, 5)
			return []uint64{e.Load(3), e.Load(4)}
		})
		code := inner.All(-1)
		e.Store(4, 1)
		return append(inner.Answer(), uint64(code), e.Load(4))
	})
	// What it does once may be all of another deed.
	r := pmem.New(8)
	x := New(r, nil, 1, func(e *Env) []uint64 {
		return []uint64{e.Do(func() uint64 {
			inner := New(r, nil, 2, func(e *Env) []uint64 {
				e.Store(3, e.Load(3)+1)
				return nil
			})
			inner.All(1)
			return uint64(inner.All(-1)) + uint64(inner.Steps())
		}), e.Load(3)}
	})
	if x.Step() != Stepped || x.Step() != Stepped || !slices.Equal(x.Answer(), []uint64{2, 1}) {
		t.Error(x.Answer())
	}
}

// ways are the ways in which a run that goes alone comes to its end.
func ways() map[string]func(x *Run) {
	l := map[string]func(x *Run){
		"steps": func(x *Run) {
			for x.Step() != Over {
			}
		},
		"all": func(x *Run) { x.All(-1) },
		"both": func(x *Run) {
			for fuse := 0; x.All(fuse%5) == api.ErrPower; fuse++ {
				x.Step()
			}
		},
	}
	for i, name := range []string{"ones", "twos", "threes"} {
		l[name] = func(x *Run) {
			for x.All(i+1) == api.ErrPower {
			}
		}
	}
	return l
}

// Alone, whatever way it goes, a deed leaves the same words, seen and kept, without power too, and the same locks as the calls done at once, and answers the same.
func TestP16_4AsAtOnce(t *testing.T) {
	for seed := range uint64(200) {
		p := mixedProgram(seed+700, 60)
		for name, way := range ways() {
			r, l := pmem.Of(first()), locks.New(table)
			r2, l2 := pmem.Of(first()), locks.New(table)
			var did, did2 []uint64
			want := p.on(&atOnce{r: r2, l: l2, who: 2}, &did2)
			x := New(r, l, 2, func(e *Env) []uint64 { return p.on(e, &did) })
			way(x)
			if !x.Over() || !slices.Equal(x.Answer(), want) || !slices.Equal(did, did2) || x.Steps() != len(want)-1 {
				t.Fatalf("%d, %s: %v, not %v; did %v, not %v", seed, name, x.Answer(), want, did, did2)
			}
			sameRegion(t, name, r, r2)
			sameTable(t, name, l, l2)
			last := func(many int) int { return many/2 + int(seed)%2 }
			r.Crash(last)
			r2.Crash(last)
			sameRegion(t, name, r, r2)
		}
	}
}

// A long deed: each of the greatest region's words, some again.
func TestP16_4Long(t *testing.T) {
	r := pmem.New(api.MaxRegion)
	x := New(r, nil, 0, func(e *Env) []uint64 {
		sum := uint64(0)
		for a := range api.MaxRegion {
			e.Store(a, sum+1)
			sum += e.Load(a / 2)
		}
		return []uint64{sum}
	})
	sum, words := uint64(0), make([]uint64, api.MaxRegion)
	for a := range words {
		words[a] = sum + 1
		sum += words[a/2]
	}
	for range 10 {
		x.Step()
	}
	if e := x.All(api.MaxRegion); e != api.ErrPower {
		t.Fatal(e)
	}
	for range 10 {
		x.Step()
	}
	if e := x.All(-1); e != api.OK || !slices.Equal(x.Answer(), []uint64{sum}) || !slices.Equal(r.Seen(), words) || x.Steps() != 2*api.MaxRegion || r.Steps() != 2*api.MaxRegion {
		t.Error(e, x.Answer(), sum, x.Steps())
	}
}

func TestP16_Example(t *testing.T) {
	x := New(pmem.New(8), locks.New(1), 0, func(e *Env) []uint64 {
		e.Store(3, 7)
		return []uint64{e.Load(3)}
	})
	for i, want := range []int{Stepped, Stepped, Over} {
		if w := x.Step(); w != want {
			t.Errorf("step %d: %d, not %d", i, w, want)
		}
	}
	if !slices.Equal(x.Answer(), []uint64{7}) {
		t.Error(x.Answer())
	}
}

// What Step tells are these numbers.
func TestP16_Numbers(t *testing.T) {
	if Stepped != 0 || Blocked != 1 || Over != 2 {
		t.Error(Stepped, Blocked, Over)
	}
}
