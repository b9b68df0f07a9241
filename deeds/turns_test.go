package deeds_test

import (
	"slices"
	"testing"

	"trencher/addr"
	"trencher/api"
	"trencher/deeds"
	"trencher/env"
	"trencher/image"
)

// going is a call of a thread, which began and ended when so many were picked; what it answered.
type going struct {
	call       api.Call
	began, end int
	answer     api.Answer
}

// turns lets threads, each with calls that it does one behind the other as the who of its number, go as they are picked: all their calls.
func (w *world) turns(lists [][]api.Call, pick func(below int) int) []going {
	w.t.Helper()
	var done []going
	runs := make([]*env.Run, len(lists))
	under := make([]going, len(lists))
	next := make([]int, len(lists))
	left := 0
	for _, l := range lists {
		left += len(l)
	}
	for n := 0; left > 0; n++ {
		if n > 100000 {
			w.t.Fatal("they wait for one another")
		}
		k := pick(len(lists))
		if runs[k] == nil {
			if next[k] == len(lists[k]) {
				continue
			}
			under[k] = going{call: by(k, lists[k][next[k]]), began: n}
			runs[k] = w.run(under[k].call)
			next[k]++
		}
		runs[k].Step()
		if runs[k].Over() {
			under[k].end, under[k].answer = n, deeds.Answer(runs[k].Answer())
			done = append(done, under[k])
			runs[k] = nil
			left--
		}
	}
	return done
}

// inOrder tells whether there is an order in which the plain model tells what the calls told, and is what there is then: each that ended ahead of another's beginning comes ahead of that.
func (w *world) inOrder(p *plain, calls []going) bool {
	if len(calls) == 0 {
		return w.isNow(p)
	}
	for i, c := range calls {
		isLater := func(d going) bool { return d.end < c.began }
		if slices.ContainsFunc(calls, isLater) {
			continue
		}
		next := p.clone()
		if next.do(c.call, c.answer) == c.answer && w.inOrder(next, slices.Delete(slices.Clone(calls), i, i+1)) {
			return true
		}
	}
	return false
}

// isNow tells whether what programs see are these objects, all other blocks are free, each once, and nobody has a lock.
func (w *world) isNow(p *plain) bool {
	heads, code := image.Heads(w.g, w.region.Seen())
	blocks := append(p.addresses(), w.heap.Free()...)
	slices.Sort(blocks)
	return isImage(p, w.region.Seen()) && code == api.OK && slices.Equal(heads, w.heap.Heads()) && slices.Equal(blocks, addr.All(w.g, heads)) && w.locks.Owner(0) < 0 && w.locks.Owner(1) < 0
}

// holdsTurns lets threads go in many ways, in a world that is made anew each time.
func holdsTurns(t *testing.T, made func() *world, ways int, lists ...[]api.Call) {
	t.Helper()
	for way := range ways {
		w := made()
		next := chance(way)
		pick := next
		if way%3 == 1 {
			// One thread for a while, then another one.
			k, many := 0, 0
			pick = func(below int) int {
				if many == 0 {
					k, many = next(below), next(60)+1
				}
				many--
				return k
			}
		}
		start := w.plain.clone()
		calls := w.turns(lists, pick)
		if !w.inOrder(start, calls) {
			t.Fatalf("way %d: %+v", way, calls)
		}
	}
}

// Two calls at once, each of each kind with each, on the same objects, and on caches that are empty or not.
func TestP19_3TwoAtOnce(t *testing.T) {
	g := api.Geometry{Spans: 4, Lanes: 2, Roots: 4}
	base, a, b := two(t, g)
	base.do(malloc(root(2), 63, 2))
	words := base.region.Seen()
	made := func() *world { return over(t, words, base.plain.clone()) }
	l := append(each(a, b), malloc(root(3), 3, 1), malloc(root(3), 63, 1), malloc(slot(b, 0), 1, 0), free(root(2)), set(root(3), b), set(root(1), 0), set(root(1), a), free(slot(a, 0)), write(a, 0, 8), tx(points(root(1), 0), points(root(3), b)), persist(a, 0, 5))
	for _, c := range l {
		for _, d := range l {
			holdsTurns(t, made, 4, []api.Call{c}, []api.Call{d})
		}
	}
}

// One call goes so many steps, then another one as far as it may; then the first one goes on, and the other one: at each step.
func TestP19_3InBetween(t *testing.T) {
	g := api.Geometry{Spans: 4, Lanes: 2, Roots: 4}
	base, _, _ := two(t, g)
	base.do(malloc(root(2), 63, 2))
	words := base.region.Seen()
	made := func() *world { return over(t, words, base.plain.clone()) }
	l := []api.Call{malloc(root(3), 63, 0), malloc(root(3), 3, 0), malloc(root(3), 1, 0), malloc(root(0), 63, 0), free(root(3)), free(root(2)), free(root(1)), set(root(3), spanAt(g, 2)), tx(points(root(2), 0), points(root(3), spanAt(g, 2)))}
	for _, c := range l {
		for _, d := range l {
			for steps := 0; ; steps++ {
				w := made()
				n := 0
				pick := func(int) int {
					n++
					if n <= steps || n > steps+400 && n%2 == 0 {
						return 0
					}
					return 1
				}
				start := w.plain.clone()
				calls := w.turns([][]api.Call{{c}, {d}}, pick)
				if !w.inOrder(start, calls) {
					t.Fatalf("behind %d steps: %+v", steps, calls)
				}
				if calls[0].call.Who == 0 && calls[0].end < steps {
					break
				}
			}
		}
	}
}

// All threads that there may be, with several calls each, with little room and with much.
func TestP19_3ManyAtOnce(t *testing.T) {
	for _, g := range []api.Geometry{{Spans: 3, Lanes: 4, Roots: 4}, {Spans: 9, Lanes: 4, Roots: 4}} {
		base, _, _ := two(t, g)
		base.do(malloc(root(2), 15, 12))
		words := base.region.Seen()
		made := func() *world { return over(t, words, base.plain.clone()) }
		for seed := range 150 {
			m := &maker{base, chance(seed + 5000)}
			lists := make([][]api.Call, 2+seed%3)
			for k := range lists {
				for range 8 / len(lists) {
					lists[k] = append(lists[k], m.call(0))
				}
			}
			holdsTurns(t, made, 3, lists...)
		}
	}
}

// Threads that begin and free objects of one class in slots of their own, so that caches are refilled and drained, spans are carved and released, while others do so.
func TestP19_3Churn(t *testing.T) {
	g := api.Geometry{Spans: 12, Lanes: 3, Roots: 3}
	base := fresh(t, g)
	var hubs []int
	for k := range 3 {
		hubs = append(hubs, base.do(malloc(root(k), 60, 60)).At)
	}
	words := base.region.Seen()
	for way := range 6 {
		w := over(t, words, base.plain.clone())
		next := chance(way + 300)
		lists := make([][]api.Call, 3)
		for k, hub := range hubs {
			for i := range 12 {
				lists[k] = append(lists[k], malloc(slot(hub, i), 15, 0))
			}
			for i := range 12 {
				lists[k] = append(lists[k], free(slot(hub, i)))
			}
			lists[k] = append(lists[k], malloc(slot(hub, 50), 127, 0), malloc(slot(hub, 51), 15, 0), free(slot(hub, 50)), malloc(slot(hub, 52), 63, 1))
		}
		calls := w.turns(lists, next)
		// As each thread has slots of its own, any order in which each one's calls stand as they are tells the same.
		p := base.plain.clone()
		for _, c := range calls {
			if got := p.do(c.call, c.answer); got != c.answer && c.answer.Code != api.ErrMemory {
				t.Fatalf("%+v: not %v", c, got)
			}
		}
		if !w.isNow(p) {
			t.Fatal(way, w.heap.Heads())
		}
	}
}
