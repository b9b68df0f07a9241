package open_test

import (
	"slices"
	"testing"

	"trencher/api"
	"trencher/env"
	"trencher/image"
	"trencher/locks"
	"trencher/mend"
	"trencher/open"
	"trencher/pmem"
)

// picks are ways to pick what is kept: each makes a new one.
func picks(seeds int) []func() func(int) int {
	l := []func() func(int) int{
		func() func(int) int { return func(int) int { return 0 } },
		func() func(int) int { return func(many int) int { return many - 1 } },
		func() func(int) int { return func(many int) int { return many / 2 } },
		func() func(int) int {
			i := 0
			return func(many int) int { i++; return i % 2 * (many - 1) }
		},
		func() func(int) int {
			i := 0
			return func(many int) int { i++; return (i + 1) % 2 * (many - 1) }
		},
	}
	for seed := range seeds {
		l = append(l, func() func(int) int {
			d := dice(seed + 17)
			return d.below
		})
	}
	return l
}

// everyPick asks, again and again, for a region without power, till each way to pick was picked.
func everyPick(do func(pick func(int) int)) {
	var path, many []int
	for {
		i := 0
		do(func(n int) int {
			if i == len(path) {
				path, many = append(path, 0), append(many, n)
			}
			i++
			return path[i-1]
		})
		for len(path) > 0 && path[len(path)-1] == many[len(path)-1]-1 {
			path, many = path[:len(path)-1], many[:len(path)-1]
		}
		if len(path) == 0 {
			return
		}
		path[len(path)-1]++
	}
}

// failing is a region while which is opened power fails: its words, what it is mended to, how many steps its opening takes.
type failing struct {
	t     *testing.T
	what  any
	words []uint64
	want  []uint64
	steps int
}

// newFailing is one of words that can be mended.
func newFailing(t *testing.T, what any, words []uint64) failing {
	t.Helper()
	want, code := mend.Mended(words)
	if code != api.OK {
		t.Fatalf("%v: %d", what, code)
	}
	steps, _ := plainOpen(words)
	return failing{t, what, slices.Clone(words), want, len(steps)}
}

// settles checks that what is left of a region is mended to what it should be, and becomes that when it is opened.
func (f failing) settles(fuse int, r *pmem.Region) {
	f.t.Helper()
	f.mends(fuse, r)
	told(f.t, f.what, begun(r, r.Size(), -1), api.OK)
	settled(f.t, []any{f.what, fuse}, r, f.want)
}

// mends checks that what is left of a region is mended to what it should be.
func (f failing) mends(fuse int, r *pmem.Region) {
	f.t.Helper()
	got, code := mend.Mended(r.Kept())
	if a := differ(got, f.want); code != api.OK || a >= 0 {
		f.t.Fatalf("%v: power fails behind %d of %d steps: %d, mended it is other at %d", f.what, fuse, f.steps, code, a)
	}
}

// fuses are steps behind which power may fail: each one from the last load on, and some ahead.
func (f failing) fuses() []int {
	l := []int{0, 1, len(f.words) / 2, len(f.words) - 1}
	for fuse := len(f.words); fuse <= f.steps; fuse++ {
		l = append(l, fuse)
	}
	return l
}

// eachStep lets power fail behind each step, with each of several ways to pick what is kept.
func (f failing) eachStep(seeds int) {
	f.t.Helper()
	for _, fuse := range f.fuses() {
		for _, pick := range picks(seeds) {
			r := pmem.Of(f.words)
			begun(r, len(f.words), fuse)
			r.Crash(pick())
			f.settles(fuse, r)
		}
	}
}

// someFailing are regions that need many fixes, or few, and lanes' logs, or none.
func someFailing(t *testing.T) []failing {
	p := scene()
	l := []failing{newFailing(t, "scene", p.words), newFailing(t, "sound", sound().words), newFailing(t, "fresh", image.Fresh(middle))}
	written(p.words, 1, api.Entry{At: rootAt(1), X: p.words[rootAt(0)]}, api.Entry{At: p.at(5, 1) + 4, X: 0}, api.Entry{At: rootAt(0), X: 0})
	l = append(l, newFailing(t, "a log", p.words))
	written(p.words, 0, sceneFixes()...)
	l = append(l, newFailing(t, "two logs", p.words))
	p.words[laneAt(0)]++
	l = append(l, newFailing(t, "a log, and a lane that doesn't count", p.words))
	q := sound()
	written(q.words, 0, api.Entry{At: rootAt(0), X: 0}, api.Entry{At: rootAt(2), X: 0})
	l = append(l, newFailing(t, "all becomes garbage", q.words))
	return l
}

// Wherever power fails, with many ways to pick what is kept.
func TestP20_4EachStep(t *testing.T) {
	for _, f := range someFailing(t) {
		f.eachStep(3)
	}
	for i, heads := range layouts() {
		if len(heads) > 6 && i > 0 {
			continue
		}
		p := crowded(i, heads)
		newFailing(t, heads, p.words).eachStep(1)
		newFailing(t, heads, logged(i, spoiled(i, p)).words).eachStep(1)
	}
}

// The greatest region, with a log in each lane, and as many objects as there may be.
func TestP20_4Greatest(t *testing.T) {
	f := newFailing(t, most, greedy(most).words)
	for fuse := len(f.words); fuse <= f.steps; fuse += 31 {
		for _, pick := range picks(1) {
			r := pmem.Of(f.words)
			begun(r, len(f.words), fuse)
			r.Crash(pick())
			f.settles(fuse, r)
		}
	}
}

// Each way to pick, of regions with few fixes: what is kept of each word of all that aren't kept yet.
func TestP20_4EachPick(t *testing.T) {
	p := drawn(1, 2, of(small(1), small(2), free))
	p.roots(p.lay(0, 3, 3, 1), p.lay(0, 7, 2, 0))
	p.lay(1, 1, 5, 2, p.at(0, 3))
	p.words[p.at(0, 3)+1] = uint64(p.at(0, 7))
	l := [][]uint64{p.words}
	words := with(p.words, api.Entry{At: rootAt(1), X: 1})
	written(words, 0, api.Entry{At: rootAt(1), X: uint64(p.at(0, 3))}, api.Entry{At: mapAt(p.g, 0), X: full}, api.Entry{At: rootAt(1), X: uint64(p.at(1, 1))})
	l = append(l, words)
	words = with(p.words, api.Entry{At: laneAt(0), X: 1})
	l = append(l, words)
	for i, words := range l {
		f := newFailing(t, i, words)
		for _, fuse := range f.fuses() {
			everyPick(func(pick func(int) int) {
				r := pmem.Of(f.words)
				begun(r, len(f.words), fuse)
				r.Crash(pick)
				f.settles(fuse, r)
			})
		}
	}
}

// Power fails again while the region is opened again, at each step, and once more, and so on.
func TestP20_4AgainAndAgain(t *testing.T) {
	for i, f := range someFailing(t) {
		for _, fuse := range f.fuses() {
			for seed, pick := range picks(1) {
				r := pmem.Of(f.words)
				d := dice(fuse*10 + seed + i)
				behind := fuse
				for range 2 + d.below(5) {
					begun(r, len(f.words), behind)
					r.Crash(pick())
					f.mends(behind, r)
					steps, _ := plainOpen(r.Kept())
					behind = len(f.words) + d.below(len(steps)-len(f.words)+1)
				}
				f.settles(behind, r)
			}
		}
	}
}

// Power fails twice, behind each two steps.
func TestP20_4Twice(t *testing.T) {
	p := drawn(2, 2, of(small(1), small(2), free))
	p.roots(p.lay(0, 3, 3, 1), p.lay(0, 7, 2, 0))
	p.lay(1, 1, 5, 2, p.at(0, 3))
	written(p.words, 0, api.Entry{At: rootAt(1), X: uint64(p.at(1, 1))}, api.Entry{At: mapAt(p.g, 0), X: full})
	p.words[laneAt(1)] = 9
	f := newFailing(t, "twice", p.words)
	for _, fuse := range f.fuses() {
		for _, pick := range picks(1)[3:] {
			r := pmem.Of(f.words)
			begun(r, len(f.words), fuse)
			r.Crash(pick())
			left := r.Kept()
			again := newFailing(t, fuse, left)
			for _, fuse := range again.fuses() {
				r := pmem.Of(left)
				begun(r, len(left), fuse)
				r.Crash(pick())
				f.settles(fuse, r)
			}
		}
	}
}

// Lines that come out by themselves, between any steps, don't matter.
func TestP20_4Evicted(t *testing.T) {
	for i, f := range someFailing(t) {
		for seed := range 3 {
			for _, fuse := range f.fuses()[3:] {
				d := dice(seed*1000 + i)
				r := pmem.Of(f.words)
				x := begun(r, len(f.words), min(fuse, len(f.words)))
				for range fuse - len(f.words) {
					x.Step()
					for range d.below(3) {
						r.Evict(d.below(r.Size()))
					}
				}
				r.Crash(d.below)
				f.settles(fuse, r)
			}
		}
	}
}

// Stopped by a fuse, and going on by the same run, without power failing, it comes to the same.
func TestP20_4GoingOn(t *testing.T) {
	for _, f := range someFailing(t) {
		for _, fuse := range f.fuses() {
			r := pmem.Of(f.words)
			x := env.New(r, locks.New(1), 0, open.Deed(r.Size()))
			for x.All(fuse/3+1) == api.ErrPower {
			}
			told(t, f.what, x, api.OK)
			settled(t, f.what, r, f.want)
			if x.Steps() != f.steps {
				t.Fatalf("%v: %d steps, not %d", f.what, x.Steps(), f.steps)
			}
		}
	}
}

// No fix is stored ahead of the lanes' replay, none flushed ahead of all stores, and none left without a fence: behind each step words that differ from what they were are those that the plain steps so far turned.
func TestP20_4InOrder(t *testing.T) {
	for _, f := range someFailing(t) {
		steps, _ := plainOpen(f.words)
		for _, fuse := range f.fuses() {
			for _, pick := range picks(2) {
				r, plain := pmem.Of(f.words), pmem.Of(f.words)
				begun(r, len(f.words), fuse)
				for _, s := range steps[:min(fuse, len(steps))] {
					s.on(plain)
				}
				var a, b []int
				one, other := pick(), pick()
				r.Crash(func(many int) int { a = append(a, many); return one(many) })
				plain.Crash(func(many int) int { b = append(b, many); return other(many) })
				if len(a) != len(b) || differ(r.Kept(), plain.Kept()) >= 0 {
					t.Fatalf("%v: behind %d steps: picked %v, not %v, other at %d", f.what, fuse, a, b, differ(r.Kept(), plain.Kept()))
				}
			}
		}
	}
}
