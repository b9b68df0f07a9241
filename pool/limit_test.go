package pool_test

import (
	"math"
	"slices"
	"testing"

	"trencher/api"
	"trencher/deeds"
	"trencher/pool"
)

// off checks that no call is done any more, malformed ones either, and that asking turns nothing.
func off(t *testing.T, what any, p *pool.Pool) {
	t.Helper()
	steps, seen := p.Region().Steps(), p.Region().Seen()
	for kind := -1; kind < 10; kind++ {
		for _, c := range []api.Call{{Kind: kind}, {Kind: kind, Who: -1}, {Kind: kind, Who: p.Geometry().Lanes - 1, Dest: root(0), Words: 3, Many: 1, Edits: make([]api.Edit, 1)}} {
			if a := p.Do(c); a != wrong(12) {
				t.Fatalf("%v: %+v: %v", what, c, a)
			}
		}
	}
	offNames(t, p)
	if p.Region().Steps() != steps || differ(p.Region().Seen(), seen) >= 0 {
		t.Fatalf("%v: something was done", what)
	}
}

// offNames checks that each name tells that the power is off, and zero beside that.
func offNames(t *testing.T, p *pool.Pool) {
	t.Helper()
	refused[int](t, "malloc", 12)(p.MallocTo(root(0), 3, 0))
	refused[int](t, "malloc", 12)(p.MallocTo(root(-1), 300, 301))
	refused[int](t, "free", 12)(p.FreeFrom(root(0)))
	refused[uint64](t, "read", 12)(p.ReadData(72, 0))
	for i, code := range []api.Errno{p.SetRoot(0, 0), p.SetRoot(9, 9), p.ClearRoot(0), p.StorePtr(72, 0, 0), p.WriteData(72, 0, 1), p.Persist(72, 0, 1), p.Tx(writes(72, 0, 1)), p.Tx()} {
		if code != api.ErrPower {
			t.Fatalf("name %d: %d", i, code)
		}
	}
}

// A Limit of each number of steps, from none to more than the call takes: the call is over within these, or it is cut there; what was done stands, and all others are cut, till power fails. Then there is no limit.
func TestP21_2Limit(t *testing.T) {
	for _, c := range scene(t, middling).calls() {
		all := steps(scene(t, middling), c)
		for n := range all + 2 {
			tr := scene(t, middling)
			tr.limited(c, n, n < all)
			tr.pool.Region().Fence()
			tr.hand.region.Fence()
			tr.pool.Fail(nil)
			tr.hand.fails(nil)
			like(t, c, tr.pool, tr.hand)
			for range 3 {
				if got, want := tr.pool.Do(get(root(0))), tr.hand.do(get(root(0))); got != want {
					t.Fatalf("%+v, %d steps: %v, not %v", c, n, got, want)
				}
			}
		}
	}
}

// steps is how many a call takes.
func steps(tr *trial, c api.Call) int {
	x := tr.pool.Begin(c)
	x.All(-1)
	return x.Steps()
}

// limited does a call within so many steps, and checks whether that is cut, and what is done of it.
func (tr *trial) limited(c api.Call, n int, cut bool) {
	tr.t.Helper()
	x := tr.hand.run(c)
	x.All(n)
	want := deeds.Answer(x.Answer())
	if cut {
		want = wrong(12)
	}
	tr.pool.Limit(n)
	if got := tr.pool.Do(c); got != want || x.Over() == cut {
		tr.t.Fatalf("%+v, %d steps: %v, not %v", c, n, got, want)
	}
	like(tr.t, c, tr.pool, tr.hand)
	if !cut && n == x.Steps() {
		// Nothing is left, but a call that asks for no step is over all the same.
		if a := tr.pool.Do(api.Call{Kind: 9}); a != wrong(1) {
			tr.t.Fatalf("%+v, %d steps: then %v", c, n, a)
		}
		if a := tr.pool.Do(get(root(0))); a != wrong(12) {
			tr.t.Fatalf("%+v, %d steps: then %v", c, n, a)
		}
		cut = true
	}
	if cut {
		off(tr.t, c, tr.pool)
		like(tr.t, c, tr.pool, tr.hand)
	}
}

// Limit by the names, too; it isn't lifted by another one once a call was cut.
func TestP21_2LimitStays(t *testing.T) {
	for _, again := range []int{-1, 0, 1, 1000, math.MaxInt, math.MinInt} {
		tr := scene(t, middling)
		a, _, _ := tr.where()
		tr.pool.Limit(2)
		refused[uint64](t, "read", 12)(tr.pool.ReadData(a, 0))
		tr.hand.run(read(a, 0)).All(2)
		tr.pool.Limit(again)
		off(t, again, tr.pool)
		like(t, again, tr.pool, tr.hand)
		if got := owners(tr.pool.Locks()); got != [2]int{-1, 0} {
			t.Fatalf("%v have locks", got)
		}
		tr.fails(pickers()[0])
		tr.does(read(a, 0), write(a, 0, 3), malloc(root(1), 3, 0))
		for range 30 {
			tr.does(read(a, 0))
		}
	}
}

// A limit below 0 is none; one that is set anew ahead of its end counts from then on.
func TestP21_2LimitAnew(t *testing.T) {
	tr := scene(t, middling)
	a, _, _ := tr.where()
	for _, n := range []int{-1, math.MinInt, math.MaxInt, 1 << 40} {
		tr.pool.Limit(0)
		tr.pool.Limit(n)
		for range 40 {
			tr.does(read(a, 0), write(a, 0, 3))
		}
	}
	all := steps(scene(t, middling), read(a, 0))
	for range 20 {
		tr.pool.Limit(2*all - 1)
		tr.does(read(a, 0))
	}
	if x, code := tr.pool.ReadData(a, 0); x != 0 || code != api.ErrPower {
		t.Error(x, code)
	}
}

// A limit that several calls use up together.
func TestP21_2LimitTogether(t *testing.T) {
	calls := func(tr *trial) []api.Call {
		a, b, _ := tr.where()
		return []api.Call{read(a, 0), malloc(root(1), 3, 1), {Kind: 9}, get(root(9)), set(root(2), b), write(a, 0, 3), malloc(root(1), 3, 9), tx(writes(a, 1, 2), points(root(3), b)), persist(a, 0, 4), free(root(1))}
	}
	all := 0
	whole := scene(t, middling)
	for _, c := range calls(whole) {
		x := whole.pool.Begin(c)
		x.All(-1)
		all += x.Steps()
	}
	for n := range all + 1 {
		tr := scene(t, middling)
		tr.pool.Limit(n)
		left := n
		for _, c := range calls(tr) {
			x := tr.hand.run(c)
			x.All(left)
			left -= x.Steps()
			want := deeds.Answer(x.Answer())
			if !x.Over() {
				want = wrong(12)
			}
			if got := tr.pool.Do(c); got != want {
				t.Fatalf("%d steps: %+v: %v, not %v", n, c, got, want)
			}
			if !x.Over() {
				break
			}
		}
		like(t, n, tr.pool, tr.hand)
		if n < all {
			off(t, n, tr.pool)
		}
	}
}

// The steps of runs, of opening, and of the region itself count for no limit; and Begin goes on while calls that are done are cut.
func TestP21_2LimitOfCallsAlone(t *testing.T) {
	tr := scene(t, middling)
	a, _, _ := tr.where()
	all := steps(scene(t, middling), read(a, 0))
	tr.pool.Limit(all)
	x := tr.pool.Begin(by(1, read(a, 0)))
	if x.All(-1) != 0 || len(x.Answer()) != 3 {
		t.Fatal(x.Answer())
	}
	for range 9 {
		tr.pool.Region().Load(0)
	}
	if x, code := tr.pool.ReadData(a, 0); x != 6 || code != 0 {
		t.Fatal(x, code)
	}
	if _, code := tr.pool.ReadData(a, 0); code != api.ErrPower {
		t.Fatal(code)
	}
	y := tr.pool.Begin(by(1, read(a, 0)))
	if y == nil || y.All(-1) != 0 || !slices.Equal(y.Answer(), []uint64{0, 0, 6}) {
		t.Fatal("a run")
	}
	tr.pool.Limit(0)
	if code := tr.pool.FailIn([]int{3, -1}, nil); code != 0 {
		t.Fatal(code)
	}
	if x, code := tr.pool.ReadData(a, 0); x != 6 || code != 0 {
		t.Fatal(x, code)
	}
}

// A limit ahead of power that fails is none behind it, also if nothing was cut.
func TestP21_2LimitBehindPower(t *testing.T) {
	for _, n := range []int{0, 1, 5, 100} {
		for _, fuses := range [][]int{nil, {0}, {7, -1}} {
			tr := scene(t, middling)
			a, _, _ := tr.where()
			tr.pool.Limit(n)
			tr.fails(pickers()[1], fuses...)
			for range 50 {
				tr.does(read(a, 0))
			}
		}
	}
}
