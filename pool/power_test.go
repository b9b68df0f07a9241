package pool_test

import (
	"math"
	"slices"
	"testing"

	"trencher/api"
	"trencher/deeds"
	"trencher/env"
	"trencher/mend"
	"trencher/pool"
)

// Power that fails between calls takes no object that is reached, and no datum that was persisted, or written by a batch; whatever is picked.
func TestP21_5Between(t *testing.T) {
	for _, pick := range pickers() {
		tr := scene(t, middling)
		a, b, c := tr.where()
		before := tr.pool.Stats()
		tr.does(write(a, 2, 21), persist(a, 2, 1), write(a, 3, 22), tx(writes(b, 0, 23), writes(c, 9, 24)), write(c, 10, 25))
		tr.fails(pick)
		for i, want := range []uint64{6, 0, 21} {
			if x := tr.do(atOnce, read(a, i)); i != 1 && x != word(want) {
				t.Fatalf("%d: %v", i, x)
			}
		}
		if tr.do(byName, read(b, 0)) != word(23) || tr.do(byName, read(c, 9)) != word(24) || tr.do(byName, read(c, 67)) != word(5) {
			t.Fatal("data of batches")
		}
		s := tr.pool.Stats()
		if s.Objects != before.Objects || s.Words != before.Words || before.Garbage != 1 || s.Garbage != 0 || s.Free != before.Free+1 {
			t.Fatalf("%+v, then %+v", before, s)
		}
		tr.fails(pick)
		tr.fails(pickers()[1])
		if tr.pool.Stats().Objects != s.Objects {
			t.Fatal("fewer objects")
		}
	}
}

// Right behind Format, right behind opening, and right behind itself, power that fails turns nothing but what a heap has in caches.
func TestP21_2FailAnew(t *testing.T) {
	for _, g := range few() {
		for _, pick := range pickers() {
			tr := formatted(t, g)
			heap := tr.pool.Heap()
			for range 3 {
				words := tr.pool.Region().Kept()
				tr.fails(pick)
				tr.fails(pick, 0, 1, -1)
				if differ(tr.pool.Region().Kept(), words) >= 0 {
					t.Fatalf("%v: words turned", g)
				}
			}
			if tr.pool.Heap() == heap {
				t.Fatalf("%v: the heap of ahead", g)
			}
			tr = tr.again()
			tr.fails(pick)
			tr.does(malloc(root(0), 3, 1))
		}
	}
}

// asked is a pick that notes of how many words it was asked.
func asked(l *[]int, pick func(int) int) func(int) int {
	return func(many int) int { *l = append(*l, many); return pick(many) }
}

// Pick is asked as the region asks it, once for each word that may be several, and for nothing where all is kept.
func TestP21_2PickAsked(t *testing.T) {
	tr := scene(t, middling)
	a, _, _ := tr.where()
	tr.does(write(a, 0, 31), write(a, 1, 32))
	tr.pool.Region().Flush(a + 4)
	tr.hand.region.Flush(a + 4)
	tr.does(write(a, 0, 33), write(a, 2, 34))
	var got, want []int
	code := tr.pool.FailIn([]int{900, 5}, asked(&got, chance(3)))
	tr.hand.fails(asked(&want, chance(3)), 900, 5)
	like(t, "asked", tr.pool, tr.hand)
	if code != 0 || !slices.Equal(got, want) || len(got) < 3 || got[0] != 3 || slices.Max(got) > 3 {
		t.Errorf("%d, %v, not %v", code, got, want)
	}
	got = nil
	if code := tr.pool.Fail(asked(&got, chance(3))); code != 0 || len(got) > 0 {
		t.Errorf("%d, %v", code, got)
	}
}

// Ways in which a call that is under way is cut.
const (
	byLimit = iota
	byRun
	cuts
)

// cut lets a call go so many steps, and no more.
func (tr *trial) cut(how int, c api.Call, n int) {
	x := tr.hand.run(c)
	x.All(n)
	if how == byLimit {
		tr.pool.Limit(n)
		tr.pool.Do(c)
		return
	}
	y := tr.pool.Begin(c)
	if n%2 == 0 {
		y.All(n)
		return
	}
	for range n {
		y.Step()
	}
}

// unsure does some calls that leave words which aren't kept, or lines that are pending.
func (tr *trial) unsure() {
	a, b, c := tr.where()
	tr.does(write(a, 0, 41), write(a, 3, 42), write(b, 1, 43), write(c, 67, 44), write(c, 0, 45), write(c, 0, 46))
}

// crashed lets power fail behind so many steps of a call: what is there then is as ahead of the call, or as behind it, if that isn't over by then; and it goes on.
func crashed(t *testing.T, made func() *trial, how int, c api.Call, n int, over bool, pick func() func(int) int, behind *plain, fuses ...int) {
	t.Helper()
	tr := made()
	tr.cut(how, c, n)
	if n%7 == 3 {
		like(t, c, tr.pool, tr.hand)
	}
	code := tr.pool.FailIn(fuses, pick())
	if hand := tr.hand.fails(pick(), fuses...); code != 0 || hand != 0 {
		t.Fatalf("%+v: behind %d steps: %d, by hand %d", c, n, code, hand)
	}
	ahead := tr.plain.opened()
	switch words := tr.pool.Region().Kept(); {
	case behind.isImage(words) && (over || !ahead.isImage(words)):
		tr.plain = behind.clone()
	case !over:
		tr.plain = ahead
	default:
		t.Fatalf("%+v: behind its end, %d steps: not as behind it", c, n)
	}
	tr.right(c)
	tr.do(atOnce, c)
	census(t, c, tr.pool, true)
}

// doneOf is what there should be behind a call, once the region is opened.
func doneOf(tr *trial, c api.Call) *plain {
	full := tr.full(c)
	a := tr.hand.do(c)
	p := tr.plain.clone()
	if want := p.do(c, full, a.At); want != a {
		tr.t.Fatalf("%+v: %v, not %v", c, a, want)
	}
	return p.opened()
}

// Power fails in the middle of each kind of call, at each of its steps, with several subsets kept.
func TestP21_2Middle(t *testing.T) {
	base := scene(t, middling)
	words := base.pool.Region().Seen()
	objects := base.plain.opened()
	objects.settled(words)
	made := func() *trial {
		tr := opened(t, words, objects)
		tr.unsure()
		return tr
	}
	for i, c := range made().calls() {
		behind := doneOf(made(), c)
		all := steps(made(), c)
		for n := range all + 1 {
			for j, pick := range pickers() {
				if (i+n+j)%3 == 0 || j < 2 {
					crashed(t, made, (n+j)%cuts, c, n, n == all, pick, behind)
				}
			}
		}
	}
}

// Likewise, while power fails again and again while the region is opened.
func TestP21_2MiddleAndOpening(t *testing.T) {
	base := scene(t, middling)
	words := base.pool.Region().Seen()
	objects := base.plain.opened()
	objects.settled(words)
	made := func() *trial {
		tr := opened(t, words, objects)
		tr.unsure()
		return tr
	}
	next := chance(12)
	size := total(middling)
	picks := pickers()
	for _, c := range made().calls() {
		behind := doneOf(made(), c)
		all := steps(made(), c)
		for n := range all + 1 {
			fuses := [][]int{{size + next(120)}, {size + next(120), size + next(120)}, {next(size), size + 1 + next(90), 0, -1}}[next(3)]
			crashed(t, made, n%cuts, c, n, n == all, picks[next(len(picks))], behind, fuses...)
		}
	}
}

// FailIn with each fuse from 0 to more than opening takes, and with lists of them, makes the same as Fail; in as many steps as its fuses let opening go.
func TestP21_2FailIn(t *testing.T) {
	words := scene(t, middling).pool.Region().Seen()
	objects := scene(t, middling).plain.opened()
	objects.settled(words)
	made := func() *trial {
		tr := opened(t, words, objects)
		a, b, c := tr.where()
		// Behind power that fails there is a log to be replayed, and garbage to be given back.
		tr.does(write(a, 0, 51), set(root(0), c), write(b, 1, 52), malloc(root(3), 3, 0), set(root(3), 0))
		tr.cut(byRun, tx(points(root(2), a), writes(b, 0, 53), points(slot(a, 0), 0)), 33)
		return tr
	}
	for i, pick := range pickers() {
		tr := made()
		tr.pool.Fail(pick())
		want := tr.pool.Region().Kept()
		opening := tr.pool.Region().Steps() - made().pool.Region().Steps()
		if opening < int64(total(middling))+50 {
			t.Fatalf("%d steps: nothing is to be stored", opening)
		}
		check := func(fuses ...int) {
			t.Helper()
			tr := made()
			steps := tr.pool.Region().Steps()
			code := tr.pool.FailIn(fuses, pick())
			tr.hand.fails(pick(), fuses...)
			like(t, fuses, tr.pool, tr.hand)
			if code != 0 || differ(tr.pool.Region().Kept(), want) >= 0 || differ(tr.pool.Region().Seen(), want) >= 0 {
				t.Fatalf("pick %d, fuses %v: %d, not as by Fail", i, fuses, code)
			}
			most := opening * int64(len(fuses)+1)
			for _, fuse := range fuses {
				if fuse >= 0 {
					most += min(int64(fuse), opening) - opening
				}
			}
			if n := tr.pool.Region().Steps() - steps; n > most || len(fuses) == 0 && n != opening {
				t.Fatalf("pick %d, fuses %v: %d steps, not at most %d", i, fuses, n, most)
			}
		}
		for fuse := range int(opening) + 2 {
			if i < 3 || fuse%5 == i%5 {
				check(fuse)
			}
			if fuse >= total(middling) {
				check(fuse, -1)
				check(fuse, fuse+7, -1)
			}
		}
		for _, fuses := range [][]int{nil, {}, {0}, {0, 0, 0}, {-1}, {math.MinInt}, {math.MaxInt}, {-1, -1}, {1, 2, 3, 4, 5}, {int(opening), 0, int(opening) - 1}, {int(opening) - 1, int(opening) - 2, int(opening) - 3}, {5, 400, -1}, slices.Repeat([]int{total(middling) + 20}, 20)} {
			check(fuses...)
		}
	}
}

// The fuses that are handed in stay as they are.
func TestP21_2FuseMemory(t *testing.T) {
	tr := scene(t, middling)
	room := []int{5, 600, -1, 7, 8}
	was := slices.Clone(room)
	if code := tr.pool.FailIn(room[:3], nil); code != 0 || !slices.Equal(room, was) {
		t.Error(code, room)
	}
}

// Nobody has a lock behind power that failed, neither one that went step by step, nor one that was cut, nor one who took it.
func TestP21_2FailLocks(t *testing.T) {
	for _, c := range scene(t, middling).calls() {
		tr := scene(t, middling)
		all := steps(scene(t, middling), c)
		for n := range all {
			for how := range cuts {
				tr = scene(t, middling)
				tr.cut(how, c, n)
				if code := tr.pool.Fail(nil); code != 0 || owners(tr.pool.Locks()) != [2]int{-1, -1} {
					t.Fatalf("%+v, %d steps: %d, %v have locks", c, n, code, owners(tr.pool.Locks()))
				}
			}
		}
	}
	tr := scene(t, middling)
	l := tr.pool.Locks()
	l.Take(0, 5)
	l.Take(1, 6)
	if code := tr.pool.FailIn([]int{3}, nil); code != 0 || owners(l) != [2]int{-1, -1} || tr.pool.Locks() != l {
		t.Error(code, owners(l))
	}
	l.Take(1, 6)
	tr.pool.Region().Store(0, 0)
	tr.pool.Region().Evict(0)
	if code := tr.pool.Fail(nil); code != api.ErrCorrupt || owners(l) != [2]int{-1, -1} {
		t.Error(code, owners(l))
	}
}

// A run that was begun, and never stepped, goes behind power that failed on what there is then.
func TestP21_2RunNeverStepped(t *testing.T) {
	for i, c := range scene(t, middling).calls() {
		for _, fuses := range [][]int{nil, {9, 700}} {
			tr := scene(t, middling)
			x := tr.pool.Begin(c)
			tr.does(write(tr.plain.roots[0], 2, 1))
			tr.fails(pickers()[i%len(pickers())], fuses...)
			if x.Over() || x.Steps() != 0 {
				t.Fatalf("%+v: over %v, %d steps", c, x.Over(), x.Steps())
			}
			full := tr.full(c)
			if code := x.All(-1); code != 0 {
				t.Fatalf("%+v: %d", c, code)
			}
			got := deeds.Answer(x.Answer())
			if want := tr.plain.do(c, full, got.At); got != want || tr.hand.do(c) != want {
				t.Fatalf("%+v: %v, not %v", c, got, want)
			}
			like(t, c, tr.pool, tr.hand)
			census(t, c, tr.pool, true)
		}
	}
}

// A run that was stopped half way when power failed does no further step, and tells that.
func TestP21_2RunHalfWay(t *testing.T) {
	for i, c := range scene(t, middling).calls() {
		all := steps(scene(t, middling), c)
		for n := 1; n < all; n++ {
			tr := scene(t, middling)
			x := tr.pool.Begin(c)
			x.All(n)
			if code := tr.pool.Fail(pickers()[i%len(pickers())]()); code != 0 || x.Over() || x.Steps() != n {
				t.Fatalf("%+v, %d steps: %d, over %v", c, n, code, x.Over())
			}
			steps, words := tr.pool.Region().Steps(), tr.pool.Region().Seen()
			free := tr.pool.Heap().Free()
			if n%2 == 0 {
				x.All(-1)
			}
			if s := x.Step(); s != env.Over || !x.Over() || !slices.Equal(x.Answer(), []uint64{12, 0, 0}) || x.Steps() != n {
				t.Fatalf("%+v, %d steps: %d, %v", c, n, s, x.Answer())
			}
			if tr.pool.Region().Steps() != steps || differ(tr.pool.Region().Seen(), words) >= 0 || !slices.Equal(tr.pool.Heap().Free(), free) || owners(tr.pool.Locks()) != [2]int{-1, -1} {
				t.Fatalf("%+v, %d steps: something turned", c, n)
			}
			census(t, c, tr.pool, false)
		}
	}
}

// A run that was blocked when power failed has done no step, and goes behind it.
func TestP21_2RunBlocked(t *testing.T) {
	tr := scene(t, middling)
	a, _, _ := tr.where()
	tr.pool.Locks().Take(1, 1)
	x := tr.pool.Begin(read(a, 0))
	if x.Step() != env.Blocked || tr.pool.Fail(nil) != 0 || x.All(-1) != 0 || !slices.Equal(x.Answer(), []uint64{0, 0, 6}) {
		t.Error(x.Answer())
	}
}

// dead checks that nothing goes on a pool any more, and that asking it turns nothing.
func dead(t *testing.T, what any, p *pool.Pool) {
	t.Helper()
	off(t, what, p)
	steps, seen, kept := p.Region().Steps(), p.Region().Seen(), p.Region().Kept()
	p.Limit(-1)
	off(t, what, p)
	p.Limit(5)
	p.Region().Store(spanAt(p.Geometry(), 0)+5, 99)
	for _, c := range []api.Call{{}, get(root(0)), read(72, 0), malloc(root(0), 3, 0)} {
		if p.Begin(c) != nil {
			t.Fatalf("%v: %+v: a run", what, c)
		}
	}
	var many []int
	for range 2 {
		if p.Fail(asked(&many, chance(1))) != api.ErrPower || p.FailIn([]int{-1, 5}, asked(&many, chance(1))) != api.ErrPower || p.FailIn(nil, nil) != api.ErrPower || len(many) > 0 {
			t.Fatalf("%v: power failed once more", what)
		}
	}
	if p.Region().Steps() != steps+1 || p.Region().Seen()[spanAt(p.Geometry(), 0)+5] != 99 || differ(p.Region().Kept(), kept) >= 0 || len(seen) != len(kept) {
		t.Fatalf("%v: something was done", what)
	}
	off(t, what, p)
}

// spoilers make an image that can't be mended, in a region.
func spoilers(tr *trial) []api.Entry {
	g := tr.plain.g
	a, _, _ := tr.where()
	return []api.Entry{{At: 0, X: 1}, {At: 1, X: 2}, {At: 7, X: 0}, {At: rootAt(0), X: 5}, {At: rootAt(2), X: uint64(a + 1)}, {At: rootAt(3), X: math.MaxUint64}, {At: headAt(g, 0), X: 77}, {At: headAt(g, 5), X: 3}, {At: a, X: 0}, {At: a + 1, X: uint64(a + 3)}, {At: headAt(g, 0) + 1, X: 0}}
}

// A region whose words can't be mended behind power that failed: it is told as corrupt, without any store, and nothing goes any more.
func TestP21_2Corrupt(t *testing.T) {
	for _, s := range spoilers(scene(t, middling)) {
		for _, fuses := range [][]int{nil, {0}, {5, 400, -1}, {-1}} {
			tr := scene(t, middling)
			x, y := tr.pool.Begin(get(root(0))), tr.pool.Begin(read(tr.plain.roots[0], 0))
			x.Step()
			tr.pool.Region().Store(s.At, s.X)
			tr.pool.Region().Evict(s.At)
			steps, was := tr.pool.Region().Steps(), tr.pool.Region().Kept()
			if _, code := mend.Mended(was); code != api.ErrCorrupt {
				t.Fatalf("%v: %d", s, code)
			}
			if code := tr.pool.FailIn(fuses, nil); code != api.ErrCorrupt {
				t.Fatalf("%v, fuses %v: %d", s, fuses, code)
			}
			most := int64(total(middling)) * int64(len(fuses)+1)
			if p := tr.pool; p.Region().Steps() > steps+most || differ(p.Region().Seen(), was) >= 0 || differ(p.Region().Kept(), was) >= 0 {
				t.Fatalf("%v, fuses %v: something was stored", s, fuses)
			}
			dead(t, s, tr.pool)
			for _, run := range []*env.Run{x, y} {
				done := run.Steps()
				if run.All(-1) != 0 || !slices.Equal(run.Answer(), []uint64{12, 0, 0}) || run.Steps() != done {
					t.Fatalf("%v: a run goes on: %v", s, run.Answer())
				}
			}
			if tr.pool.Region() == nil || tr.pool.Geometry() != middling || tr.pool.Heap() == nil || tr.pool.Locks().Len() != 2 {
				t.Fatalf("%v: what it has is gone", s)
			}
		}
	}
}

// What programs see, and isn't kept, may go: then the region can be mended.
func TestP21_2CorruptLost(t *testing.T) {
	for _, s := range spoilers(scene(t, middling)) {
		tr := scene(t, middling)
		tr.pool.Region().Store(s.At, s.X)
		tr.hand.region.Store(s.At, s.X)
		tr.fails(pickers()[0])
		tr = scene(t, middling)
		tr.pool.Region().Store(s.At, s.X)
		if code := tr.pool.Fail(pickers()[1]()); code != api.ErrCorrupt {
			t.Fatalf("%v: %d", s, code)
		}
	}
}

// The geometry is that of the image, also if that is another one behind power that failed.
func TestP21_4OtherGeometry(t *testing.T) {
	p := pool.Format(least)
	q := pool.Format(api.Geometry{Spans: 1, Lanes: 1, Roots: 2})
	for a, x := range q.Region().Kept() {
		p.Region().Store(a, x)
		p.Region().Evict(a)
	}
	if p.Geometry() != least || p.Do(get(root(1))) != wrong(3) {
		t.Fatal(p.Geometry())
	}
	if code := p.Fail(nil); code != 0 || p.Geometry() != q.Geometry() || p.Do(get(root(1))) != told(0) {
		t.Error(code, p.Geometry())
	}
	if at, code := p.MallocTo(root(1), 3, 0); at != 76 || code != 0 {
		t.Error(at, code)
	}
}

// A pick that panics is its caller's. If it does so at first, power hasn't failed; if it does while the region is opened, no call is done till power fails anew.
func TestP21_2PickPanics(t *testing.T) {
	for _, later := range []bool{false, true} {
		tr := scene(t, middling)
		tr.unsure()
		a, _, _ := tr.where()
		tr.cut(byRun, tx(points(root(2), a), writes(a, 0, 53)), 24)
		steps := tr.pool.Region().Steps()
		panicked := false
		func() {
			defer func() { panicked = recover() != nil }()
			tr.pool.FailIn([]int{total(middling) + 40, total(middling) + 44, -1}, func(many int) int {
				if later == (tr.pool.Region().Steps() > steps) {
					panic("a pick")
				}
				return many - 1
			})
		}()
		if !panicked {
			t.Fatal("it didn't panic")
		}
		if later {
			off(t, "behind a panic", tr.pool)
		} else if a := tr.pool.Do(read(a, 1)); a != word(7) {
			t.Fatal(a)
		}
		if code := tr.pool.Fail(nil); code != 0 {
			t.Fatal(code)
		}
		census(t, later, tr.pool, false)
		if tr.pool.Stats().Objects != 3 {
			t.Error(tr.pool.Stats())
		}
	}
}
