package census_test

import (
	"math"
	"slices"
	"testing"

	"trencher/api"
	"trencher/census"
	"trencher/env"
	"trencher/image"
	"trencher/mark"
	"trencher/pool"
)

// A pool that was formatted just now, or opened of a fresh image, is right, and has no blocks.
func TestP23_4Fresh(t *testing.T) {
	for _, g := range everyGeometry() {
		tr := formatted(t, g)
		if k := tr.rose(g); len(k.begins) > 0 {
			t.Fatalf("%v: %v", g, k)
		}
		tr.pool, _ = pool.Open(image.Fresh(g))
		if k := tr.rose(g); len(k.begins) > 0 {
			t.Fatalf("%v: %v", g, k)
		}
	}
}

// The example of the whole: what is left behind is garbage till power fails.
func TestP23_4Example(t *testing.T) {
	tr := formatted(t, least)
	counts := func(want ...int) {
		t.Helper()
		if got := census.Of(tr.pool); got != api.Census(append(want, 0, 0)) {
			t.Fatal(got, want)
		}
	}
	counts(0, 0, 0)
	if at := tr.makes(root(0), 3, 1); at != 76 {
		t.Fatal(at)
	}
	counts(1, 0, 15)
	tr.does(api.Call{Kind: 3, Dest: slot(76, 0), Target: 76})
	counts(1, 0, 15)
	tr.does(api.Call{Kind: 3, Dest: root(0)})
	counts(0, 1, 15)
	tr.fails(func(int) int { return 0 })
	counts(0, 0, 0)
}

// Calls of each kind, right and wrong, on several geometries, each in some way, with power that fails between them, and while the region is opened: behind each of them the pool is right, and each block is what the plain model has there.
func TestP23_4Scripts(t *testing.T) {
	var seen api.Census
	for _, g := range few() {
		for seed := range 8 {
			next := chance(seed)
			tr := formatted(t, g)
			for range 3 {
				tr.script(next, 40)
				for state, n := range census.Of(tr.pool) {
					seen[state] += n
				}
				switch pick := pickers()[next(5)]; next(3) {
				case 0:
					tr.fails(pick)
				case 1:
					tr.fails(pick, next(total(g)+60), next(total(g)+60)-1)
				case 2:
					p, code := pool.Open(tr.words())
					if code != api.OK {
						t.Fatal(code)
					}
					tr.pool = p
					tr.plain.opened()
					tr.right("opened")
					tr.rose("opened")
				}
			}
		}
	}
	if seen[0] < 500 || seen[1] < 100 || seen[2] < 1000 || seen[3]+seen[4] > 0 {
		t.Fatal(seen)
	}
}

// roomFor is how many blocks there are at most for objects of so many words.
func roomFor(g api.Geometry, words int) int {
	for class := range 4 {
		if words < size(class) {
			return g.Spans * 64 / size(class)
		}
	}
	return g.Spans / (words/64 + 1)
}

// Objects of each class till there is no room, then they end, one by one: spans come and go.
func TestP23_4Full(t *testing.T) {
	for i, words := range []int{1, 2, 7, 8, 63, 64, 128, 255, 1} {
		g := []api.Geometry{{Spans: 5, Lanes: 2, Roots: 2}, most}[i/8]
		tr := formatted(t, g)
		many := 0
		do := func(c api.Call) api.Answer {
			a := tr.pool.Do(c)
			if a.Code == api.OK {
				tr.plain.did(c, a)
			}
			if many++; many%(1+i*i) == 0 {
				tr.right(words)
			}
			return a
		}
		last := root(0)
		var made []api.Dest
		for who := 0; ; who = 1 - who {
			a := do(api.Call{Kind: 1, Who: who, Dest: last, Words: words, Slots: 1})
			if a.Code == api.ErrMemory {
				break
			}
			made = append(made, last)
			last = slot(a.At, 0)
		}
		// The cache of the one that found room last may have some left.
		if k := tr.right("full"); k.count[0] != len(made) || k.count[2] > 3 || k.count != [5]int{roomFor(g, words) - k.count[2], 0, k.count[2]} {
			t.Fatalf("%d words: %v", words, k)
		}
		for i, d := range slices.Backward(made) {
			if a := do(api.Call{Kind: 2, Who: i / 3 % 2, Dest: d}); a.Code != api.OK {
				t.Fatal(a)
			}
		}
		if k := tr.right("empty"); k.count[0] != 0 || k.count[1] != 0 || len(tr.plain.things) > 0 {
			t.Fatalf("%d words: %v", words, k)
		}
		tr.fails(nil)
	}
}

// Objects that lie in one span with free blocks and with garbage, of each class.
func TestP23_4OneSpan(t *testing.T) {
	for class, words := range []int{1, 3, 7, 15} {
		tr := formatted(t, api.Geometry{Spans: 1, Lanes: 1, Roots: 2})
		tr.makes(root(0), words, 0)
		tr.makes(root(1), words, 0)
		tr.does(api.Call{Kind: 3, Dest: root(0)})
		if k := tr.right(class); k.count != [5]int{1, 1, 64/size(class) - 2} || k.use[0] != words+1 {
			t.Fatal(k)
		}
		tr.makes(root(0), words, 0)
		if k := tr.right(class); k.count != [5]int{2, 1, 64/size(class) - 3} {
			t.Fatal(k)
		}
		tr.fails(nil)
		if k := tr.right(class); k.count != [5]int{2, 0, 64/size(class) - 2} {
			t.Fatal(k)
		}
	}
}

// middling is a trial with a small object, at the root 0, that points to another one and to a large one, and with garbage; where these three are.
func middling(t *testing.T) (tr *trial, a, b, c int) {
	tr = formatted(t, api.Geometry{Spans: 6, Lanes: 2, Roots: 4})
	a = tr.makes(root(0), 7, 3)
	b = tr.makes(slot(a, 0), 5, 1)
	c = tr.makes(slot(a, 2), 70, 2)
	tr.makes(slot(c, 0), 5, 1)
	tr.does(api.Call{Kind: 3, Dest: slot(c, 0)}, api.Call{Kind: 3, Dest: slot(c, 1), Target: b})
	return tr, a, b, c
}

// calls are some of each kind for that trial: those that carve, take from a cache, take spans, refill, leave spans, drain and release, and those that tell an error.
func calls(a, b, c int) []api.Call {
	return []api.Call{
		{Kind: 1, Dest: root(1), Words: 3, Slots: 1}, {Kind: 1, Dest: slot(b, 0), Words: 6}, {Kind: 1, Who: 1, Dest: root(1), Words: 7}, {Kind: 1, Dest: root(1), Words: 130, Slots: 1}, {Kind: 1, Dest: root(1), Words: 255}, {Kind: 1, Dest: root(0), Words: 3}, {Kind: 1, Dest: slot(b, 1), Words: 1}, {Kind: 1, Dest: root(0), Words: 70},
		{Kind: 2, Dest: slot(a, 2)}, {Kind: 2, Dest: slot(a, 0)}, {Kind: 2, Dest: root(0)}, {Kind: 2, Dest: root(1)},
		{Kind: 3, Dest: root(0), Target: b}, {Kind: 3, Dest: slot(a, 2)}, {Kind: 3, Dest: root(2), Target: a + 1}, {Kind: 4, Dest: root(0)},
		{Kind: 5, Dest: slot(a, 1), X: 9}, {Kind: 6, Dest: slot(a, 1)}, {Kind: 7, Dest: slot(c, 3), Many: 40},
		{Kind: 8, Edits: []api.Edit{{Dest: root(1), Target: c}, {Dest: root(0)}, {Data: true, Dest: slot(c, 2), X: 7}}}, {Kind: 8}, {Kind: 9},
	}
}

// At each step of each call what is told is what the words and the heap say then, if the image can be marked; no block is ever there twice; and behind its last step the pool is right again.
func TestP23_4EachStep(t *testing.T) {
	lost := 0
	_, a, b, c := middling(t)
	for _, call := range calls(a, b, c) {
		tr, _, _, _ := middling(t)
		x := tr.pool.Begin(call)
		for x.Step() == env.Stepped {
			h, words := tr.pool.Heap(), tr.words()
			if _, code := mark.Reach(tr.g, words); code != api.OK {
				corrupt(t, call, words, h)
				continue
			}
			if k := agrees(t, call, tr.g, words, h); k.count[4] > 0 {
				t.Fatalf("%+v: %v", call, k)
			} else if k.count[3] > 0 {
				lost++
			}
		}
		tr.sound(call)
	}
	if lost < 50 {
		t.Fatal(lost)
	}
}

// Wherever a call is cut, and whatever is kept then: behind opening the pool is right, and has no garbage.
func TestP23_4Cut(t *testing.T) {
	_, a, b, c := middling(t)
	for turn, call := range calls(a, b, c) {
		for n := 0; ; n++ {
			tr, _, _, _ := middling(t)
			over := true
			if turn%2 == 0 {
				tr.pool.Limit(n)
				over = tr.pool.Do(call).Code != api.ErrPower
			} else {
				over = tr.pool.Begin(call).All(n) != api.ErrPower
			}
			pick := pickers()[n%5]
			if code := tr.pool.FailIn([]int{n * 7, -1}[:n%3], pick); code != api.OK {
				t.Fatalf("%+v, %d steps: %d", call, n, code)
			}
			tr.rose(call)
			if done(tr.pool, n%ways, call); tr.sound(call).count[0] == 0 {
				t.Fatalf("%+v, %d steps: nothing lives", call, n)
			}
			if over {
				break
			}
		}
	}
}

// crew is calls of several whos that go step by step, in any turns.
type crew struct {
	tr   *trial
	next func(below int) int
	runs []*env.Run // by whos; nil, if none is under way
}

// call is a call by chance of what blocks there are that have a bit.
func (c *crew) call(who int) api.Call {
	words := c.tr.words()
	var objects []int
	for _, b := range blocksOf(c.tr.g, words) {
		if words[headAt(c.tr.g, b.span)+1]>>b.index&1 == 1 {
			objects = append(objects, b.at)
		}
	}
	m := &caller{c.next, c.tr.g, objects, func(at int) int { return int(words[at] >> 16 % 256) }}
	call := m.call()
	call.Who = who
	return call
}

// pick lets a call go a step; one that isn't there begins, unless all are to end. It tells whether something went.
func (c *crew) pick(who int, end bool) bool {
	if c.runs[who] == nil {
		if end {
			return false
		}
		c.runs[who] = c.tr.pool.Begin(c.call(who))
	}
	if s := c.runs[who].Step(); s == env.Blocked {
		return false
	}
	if c.runs[who].Over() {
		c.runs[who] = nil
	}
	return true
}

// rest lets all calls end.
func (c *crew) rest() {
	for went := true; went; {
		went = false
		for who := range c.runs {
			went = c.pick(who, true) || went
		}
	}
	for who, x := range c.runs {
		if x != nil {
			c.tr.t.Fatalf("the call of %d doesn't end", who)
		}
	}
}

// Calls of several whos in any turns: no block is ever there twice, and once all are over the pool is right.
func TestP23_4Turns(t *testing.T) {
	var seen api.Census
	for _, g := range few() {
		if g.Lanes == 1 {
			continue
		}
		for seed := range 6 {
			next := chance(seed + 600)
			c := &crew{formatted(t, g), next, make([]*env.Run, g.Lanes)}
			for round := range 12 {
				for range 150 {
					who := next(g.Lanes)
					for range 1 + next(6) {
						c.pick(who, false)
					}
					if n := census.Of(c.tr.pool); n[4] > 0 {
						t.Fatalf("%v: %v", g, n)
					}
				}
				c.rest()
				k := c.tr.sound(round)
				for state, n := range k.count {
					seen[state] += n
				}
				if next(5) == 0 {
					if code := c.tr.pool.Fail(pickers()[next(5)]); code != api.OK {
						t.Fatal(code)
					}
					c.tr.rose(round)
				}
			}
		}
	}
	if seen[0] < 1000 || seen[1] < 100 {
		t.Fatal(seen)
	}
}

// Opened, any words are corrupt, or a pool that is right and has no garbage.
func TestP23_4AnyWords(t *testing.T) {
	right, wrong := 0, 0
	for seed := range 250 {
		next := chance(seed + 7000)
		tr := formatted(t, few()[seed%6])
		for range 25 {
			c := &crew{tr: tr, next: next}
			tr.pool.Do(c.call(next(tr.g.Lanes)))
		}
		for range 12 {
			words := tr.words()
			for range 1 + next(3) {
				at := 8 + next(len(words)-8)
				words[at] = []uint64{words[at] ^ 1<<next(64), 0, uint64(next(len(words))), math.MaxUint64}[next(4)]
			}
			p, code := pool.Open(words)
			if code != api.OK {
				wrong++
				continue
			}
			(&trial{t: t, g: tr.g, pool: p}).rose(seed)
			right++
		}
	}
	if right < 500 || wrong < 100 {
		t.Fatal(right, wrong)
	}
}
