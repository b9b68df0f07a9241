package lane_test

import (
	"slices"
	"testing"

	"trencher/api"
	"trencher/env"
	"trencher/image"
	"trencher/lane"
	"trencher/locks"
	"trencher/pmem"
)

// outcome is how an image is, beside lanes, once it is replayed: as ahead of a log, as behind it, or neither.
func outcome(t *testing.T, what any, g api.Geometry, words, ahead, behind []uint64) (isAhead, isBehind bool) {
	t.Helper()
	w := settled(t, what, g, words)
	isAhead, isBehind = slices.Equal(w, ahead), slices.Equal(w, behind)
	if !isAhead && !isBehind {
		t.Fatalf("%v: neither as ahead, at %d, nor as behind, at %d", what, differ(w, ahead), differ(w, behind))
	}
	return
}

// failing is a log that goes through a lane, and what an image is ahead of it, and behind it.
type failing struct {
	t               *testing.T
	g               api.Geometry
	words           []uint64
	n               int
	l               []api.Entry
	ahead, behind   []uint64
	written, sealed int // how many steps are done behind its first two parts
	cost            int
}

func newFailing(t *testing.T, g api.Geometry, words []uint64, n int, l []api.Entry) failing {
	t.Helper()
	ahead, behind := settled(t, l, g, words), settled(t, l, g, applied(words, l))
	return failing{t, g, words, n, l, ahead, behind, until(n, l, 1), until(n, l, 2), until(n, l, 4)}
}

// left holds what is left of a region when power failed behind so many steps: as ahead till the log is sealed, as behind from then on.
func (f failing) left(fuse int, words []uint64) {
	f.t.Helper()
	what := []any{f.g, f.n, f.l, fuse}
	isAhead, isBehind := outcome(f.t, what, f.g, words, f.ahead, f.behind)
	if fuse <= f.written && !isAhead {
		f.t.Fatalf("%v: as behind, and it isn't sealed", what)
	}
	if fuse >= f.sealed && !isBehind {
		f.t.Fatalf("%v: as ahead, and it is sealed", what)
	}
}

// at lets power fail behind so many steps, and holds what is left, and what a Replay makes of it.
func (f failing) at(fuse int, pick func(int) int) {
	f.t.Helper()
	r, _ := begun(f.words, through(f.g, f.n, f.l), fuse)
	r.Crash(pick)
	left := r.Kept()
	f.left(fuse, left)
	again := env.New(r, locks.New(1), 0, replay(f.g))
	want, _ := image.Replayed(left)
	if again.All(-1) != api.OK || differ(r.Kept(), want) >= 0 || differ(r.Seen(), want) >= 0 {
		f.t.Fatalf("%v, %d, %v, %d: replayed it is other at %d", f.g, f.n, f.l, fuse, differ(r.Kept(), want))
	}
}

// Wherever power fails, with many ways to pick what is kept.
func TestP17_4EachStep(t *testing.T) {
	for _, g := range few() {
		for i, l := range logs(g) {
			if i%3 != g.Spans%3 && g != least {
				continue
			}
			f := newFailing(t, g, busy(g), i%g.Lanes, l)
			for fuse := range f.cost + 1 {
				for _, pick := range picks(2) {
					f.at(fuse, pick())
				}
			}
		}
	}
}

// Each way to pick, of logs of one to three entries: what is kept of each word of all that aren't kept yet.
func TestP17_4EachPick(t *testing.T) {
	g := api.Geometry{Spans: 1, Lanes: 2, Roots: 2}
	a := spanAt(g, 0)
	for i, l := range [][]api.Entry{
		{{At: 8, X: 7}},
		{{At: a + 1, X: 7}, {At: a, X: 8}},
		{{At: a, X: 7}, {At: a, X: 8}},
		{{At: a + 9, X: 7}, {At: 9, X: 8}, {At: a + 9, X: 9}},
		{{At: total(g) - 1, X: 0}, {At: headAt(g, 0), X: full}, {At: headAt(g, 0) + 1, X: 1}},
	} {
		for _, words := range [][]uint64{fresh(g), busy(g)} {
			f := newFailing(t, g, words, i%2, l)
			for fuse := range f.cost + 1 {
				everyPick(func(pick func(int) int) { f.at(fuse, pick) })
			}
		}
	}
}

// apartFrom are the entries whose addresses no other log's entry has.
func apartFrom(l, other []api.Entry) []api.Entry {
	return slices.DeleteFunc(slices.Clone(l), func(s api.Entry) bool {
		return slices.ContainsFunc(other, func(o api.Entry) bool { return o.At == s.At })
	})
}

// What lies in the lane already, without a seal, doesn't matter, the log's own words neither; nor does another lane, with a log that counts, of other words in the same lines.
func TestP17_4OverOthers(t *testing.T) {
	g := middle
	for i, l := range some(g) {
		for n := range 2 {
			for _, m := range [][]api.Entry{l, reversed(l), l[:1], append(slices.Clone(l), l...)[:min(16, 2*len(l))], spread(g, 16, 2, 1)} {
				words := busy(g)
				written(words, n, m)
				words[laneAt(n)] = 0
				if i%2 == 0 {
					written(words, 1-n, apartFrom(spread(g, 16, i+n, 2), l))
				}
				f := newFailing(t, g, words, n, l)
				for fuse := range f.cost + 1 {
					for _, pick := range picks(1) {
						f.at(fuse, pick())
					}
				}
			}
		}
	}
}

// Lines that come out by themselves, between any steps, don't matter either.
func TestP17_4Evicted(t *testing.T) {
	for _, g := range []api.Geometry{least, middle} {
		for i, l := range some(g) {
			f := newFailing(t, g, busy(g), i%g.Lanes, l)
			for seed := range uint64(12) {
				for fuse := range f.cost + 1 {
					below := chance(seed)
					r, x := begun(f.words, through(g, f.n, l), 0)
					for range fuse {
						x.Step()
						for range below(3) {
							r.Evict(below(r.Size()))
						}
					}
					r.Crash(below)
					f.left(fuse, r.Kept())
				}
			}
		}
	}
}

// Several logs through one lane, one behind the other: what is left is as behind those that are over, and perhaps the one that is under way.
func TestP17_4BehindOneAnother(t *testing.T) {
	g := middle
	l := some(g)
	deed := func(e *env.Env) []uint64 {
		for _, log := range l {
			lane.Through(e, g, 1, log)
		}
		return nil
	}
	all := 0
	images := [][]uint64{busy(g)}
	for i, log := range l {
		images = append(images, applied(images[i], log))
		for fuse := range len(plainThrough(1, log)) {
			for _, pick := range picks(4) {
				r, x := begun(busy(g), deed, all+fuse)
				if x.Over() {
					t.Fatal("over behind", all+fuse)
				}
				r.Crash(pick())
				what := []any{i, fuse}
				outcome(t, what, g, r.Kept(), besideLanes(g, images[i]), besideLanes(g, images[i+1]))
			}
		}
		all += len(plainThrough(1, log))
	}
}

// Power fails while what is left is replayed, again and again, at each step: replayed it is the same.
func TestP17_4WhileReplayed(t *testing.T) {
	g := api.Geometry{Spans: 2, Lanes: 3, Roots: 7}
	for i, l := range some(g) {
		words := busy(g)
		for n, s := range []int{2, 4, 6} {
			states()[s].lay(g, words, n)
		}
		// One lane has no log but what a failure left.
		begin := applied(words, nil)
		begin[laneAt(i%3)] = 0
		r, _ := begun(begin, through(g, i%3, l), until(i%3, l, 2)+i)
		r.Crash(chance(uint64(i)))
		left := r.Kept()
		want, _ := image.Replayed(left)
		steps, _, _ := plainReplay(g, left)
		for fuse := range len(steps) + 1 {
			for _, pick := range picks(3) {
				r, _ := begun(left, replay(g), fuse)
				for again := range 3 {
					r.Crash(pick())
					if w := settled(t, fuse, g, r.Kept()); differ(w, besideLanes(g, want)) >= 0 {
						t.Fatalf("%v, %d: replayed it is other at %d", l, fuse, differ(w, besideLanes(g, want)))
					}
					env.New(r, locks.New(1), 0, replay(g)).All((fuse*7 + again*11) % (len(steps) + 1))
				}
				r.Crash(pick())
				env.New(r, locks.New(1), 0, replay(g)).All(-1)
				if differ(r.Kept(), r.Seen()) >= 0 || differ(besideLanes(g, r.Kept()), besideLanes(g, want)) >= 0 || r.Kept()[laneAt(0)] != 0 || r.Kept()[laneAt(1)] != 0 || r.Kept()[laneAt(2)] != 0 {
					t.Fatalf("%v, %d: at the end it is other", l, fuse)
				}
			}
		}
	}
}

// Each state of lanes, with power failing while it is replayed: what isn't applied stays so, whichever steps were done.
func TestP17_4WhileStatesAreReplayed(t *testing.T) {
	g := middle
	for i, s := range states() {
		words := busy(g)
		s.lay(g, words, 0)
		states()[(i*5+2)%len(states())].lay(g, words, 1)
		steps, _, want := plainReplay(g, words)
		for fuse := range len(steps) + 1 {
			for _, pick := range picks(2) {
				r, _ := begun(words, replay(g), fuse)
				r.Crash(pick())
				env.New(r, locks.New(1), 0, replay(g)).All(-1)
				if a := differ(r.Kept(), want); a >= 0 {
					t.Fatalf("%s, %d: %x at %d, not %x", s.name, fuse, r.Kept()[a], a, want[a])
				}
			}
		}
	}
}

// several are runs of logs, each through its own lane, over one region and one table, and the plain steps of each over another region.
type several struct {
	t      *testing.T
	g      api.Geometry
	words  []uint64
	logs   [][]api.Entry
	r, r2  *pmem.Region
	table  *locks.Table
	runs   []*env.Run
	plain  [][]step
	locked bool // each takes a lock ahead of its log, and leaves it behind
	owner  int  // who has it, or -1
	order  []int
}

// newSeveral is the runs of these logs.
func newSeveral(t *testing.T, g api.Geometry, words []uint64, locked bool, logs ...[]api.Entry) *several {
	s := &several{t: t, g: g, words: words, logs: logs, r: pmem.Of(words), r2: pmem.Of(words), table: locks.New(api.Locks), locked: locked, owner: -1}
	for n, l := range logs {
		deed := through(g, n, l)
		steps := plainThrough(n, l)
		if locked {
			deed = func(e *env.Env) []uint64 {
				e.Lock(api.LockPublish)
				defer e.Unlock(api.LockPublish)
				return through(g, n, l)(e)
			}
			steps = slices.Concat([]step{{kind: other}}, steps, []step{{kind: other}})
		}
		s.runs = append(s.runs, env.New(s.r, s.table, n, deed))
		s.plain = append(s.plain, steps)
	}
	return s
}

// pick lets one of them go a step, and holds that against the plain ones.
func (s *several) pick(n int) {
	s.t.Helper()
	want := env.Stepped
	switch {
	case len(s.plain[n]) == 0:
		want = env.Over
	case s.plain[n][0].kind == other && s.owner >= 0 && s.owner != n:
		want = env.Blocked
	}
	if got := s.runs[n].Step(); got != want {
		s.t.Fatalf("%v: run %d: %d, not %d", s.order, n, got, want)
	}
	if want != env.Stepped {
		return
	}
	if s.plain[n][0].kind == other && s.owner < 0 {
		s.owner, s.order = n, append(s.order, n)
	} else if s.plain[n][0].kind == other {
		s.owner = -1
	}
	s.plain[n][0].on(s.r2)
	s.plain[n] = s.plain[n][1:]
}

// over tells whether all are.
func (s *several) over() bool {
	for n, x := range s.runs {
		if x.Over() != (len(s.plain[n]) == 0) {
			s.t.Fatalf("run %d: %v, with %d steps to do", n, x.Over(), len(s.plain[n]))
		}
		if !x.Over() {
			return false
		}
	}
	return true
}

// has tells how a log's words are in an image: all as it tells, all as at first, or a mixture. A log is apart from the others.
func (s *several) has(n int, words []uint64) (ahead, behind bool) {
	want := applied(s.words, s.logs[n])
	ahead, behind = true, true
	for _, e := range s.logs[n] {
		ahead = ahead && words[e.At] == s.words[e.At]
		behind = behind && words[e.At] == want[e.At]
	}
	return
}

// apart holds what is left without power, of logs of words apart: of each all or nothing, and all else as it was.
func (s *several) apart(pick func(int) int) {
	s.t.Helper()
	s.r.Crash(pick)
	w, code := image.Replayed(s.r.Kept())
	if code != api.OK {
		s.t.Fatal(code)
	}
	of := map[int]bool{}
	for n, l := range s.logs {
		ahead, behind := s.has(n, w)
		left := len(s.plain[n])
		written, sealed := len(plainThrough(n, l))-until(n, l, 1), len(plainThrough(n, l))-until(n, l, 2)
		if !ahead && !behind || left >= written && !ahead || left <= sealed && !behind {
			s.t.Fatalf("log %d, with %d steps to do: %v, %v", n, left, ahead, behind)
		}
		for _, e := range l {
			of[e.At] = true
		}
	}
	for a := range w {
		inLanes := a >= laneAt(0) && a < headAt(s.g, 0)
		if !inLanes && !of[a] && w[a] != s.words[a] {
			s.t.Fatalf("%d is no log's, and turned", a)
		}
	}
	replays(s.t, "what several left", s.g, s.r.Kept())
}

// logsApart are logs of words apart, though of the same lines, one for each lane of the geometry.
func logsApart(g api.Geometry, long int) [][]api.Entry {
	at := writable(g)
	l := make([][]api.Entry, g.Lanes)
	for i, x := range mixed(len(at), 71) {
		n := i % g.Lanes
		if len(l[n]) < max(1, long-2*n) {
			l[n] = append(l[n], api.Entry{At: at[(i*9)%len(at)], X: x})
		}
	}
	return l
}

// Two to four at once, picked in many orders, of words apart in the same lines: what they do, and what is left wherever power fails.
func TestP17_4Several(t *testing.T) {
	for lanes := 2; lanes <= 4; lanes++ {
		g := api.Geometry{Spans: 1, Lanes: lanes, Roots: 4}
		for seed := range uint64(300) {
			below := chance(seed)
			s := newSeveral(t, g, busy(g), false, logsApart(g, 1+below(16))...)
			stop := below(250)
			for i := 0; i < stop && !s.over(); i++ {
				for n, many := below(lanes), 1+below(6); many > 0; many-- {
					s.pick(n)
				}
			}
			sameRegion(t, seed, s.r, s.r2)
			if s.over() && s.table.Taken() != 0 {
				t.Fatal("locks were taken")
			}
			if seed%2 == 0 {
				// Which words are still picked among is told by the way.
				sameWithout(t, seed, s.r, s.r2, picks(9)[seed%14])
			}
			s.apart(below)
		}
	}
}

// Two at once: one goes so many steps, then the other one so many, for all numbers; then both to their ends.
func TestP17_4TwoEachOrder(t *testing.T) {
	g := api.Geometry{Spans: 1, Lanes: 2, Roots: 2}
	a := spanAt(g, 0)
	l := [][]api.Entry{{{At: a, X: 7}, {At: a + 2, X: 8}}, {{At: a + 1, X: 9}, {At: 8, X: 10}}}
	for first := range 2 {
		for i := range len(plainThrough(0, l[first])) + 1 {
			for j := range len(plainThrough(0, l[1-first])) + 1 {
				for k, pick := range picks(2) {
					s := newSeveral(t, g, busy(g), false, l...)
					for range i {
						s.pick(first)
					}
					for range j {
						s.pick(1 - first)
					}
					if k == 0 {
						for !s.over() {
							s.pick(first)
							s.pick(1 - first)
						}
						sameRegion(t, []int{first, i, j}, s.r, s.r2)
					}
					s.apart(pick())
				}
			}
		}
	}
}

// Two to four at once under a lock, of the same words: they go one behind the other, as they took it, and what is left is as behind some of them, in that order.
func TestP17_4UnderLock(t *testing.T) {
	for lanes := 2; lanes <= 4; lanes++ {
		g := api.Geometry{Spans: 1, Lanes: lanes, Roots: 4}
		for seed := range uint64(300) {
			below := chance(seed + 1000)
			var l [][]api.Entry
			for n := range lanes {
				l = append(l, spread(g, 1+below(9), below(20), 1+n))
			}
			s := newSeveral(t, g, busy(g), true, l...)
			stop := below(400)
			for i := 0; i < stop && !s.over(); i++ {
				s.pick(below(lanes))
			}
			sameRegion(t, seed, s.r, s.r2)
			s.r.Crash(below)
			ahead, behind := s.words, s.words
			for _, n := range s.order {
				ahead, behind = behind, applied(behind, l[n])
			}
			if s.owner < 0 {
				ahead = behind
			}
			outcome(t, s.order, g, s.r.Kept(), besideLanes(g, ahead), besideLanes(g, behind))
			if s.over() && len(s.order) != lanes {
				t.Fatal(s.order)
			}
		}
	}
}
