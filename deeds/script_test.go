package deeds_test

import (
	"math"
	"testing"

	"trencher/api"
)

// maker makes calls of all kinds, right and wrong, that look as if they were by chance.
type maker struct {
	w    *world
	next func(int) int
}

// wrongAt is an address at which no object is, or may be none.
func (m *maker) wrongAt() int {
	g := m.w.g
	l := []int{0, -1, 8, laneAt(0), headAt(g, 0), headAt(g, 0) + 1, spanAt(g, 0), spanAt(g, 0) - 1, total(g), total(g) + 64, math.MaxInt, math.MinInt, 1 << 32, 1<<32 + spanAt(g, 0)}
	if m.next(2) == 0 {
		return l[m.next(len(l))]
	}
	return spanAt(g, 0) + m.next(g.Spans*64)
}

// at is an object's address, mostly.
func (m *maker) at() int {
	l := m.w.plain.addresses()
	if len(l) == 0 || m.next(12) == 0 {
		return m.wrongAt()
	}
	return l[m.next(len(l))]
}

// index is one of so many, mostly.
func (m *maker) index(many int) int {
	if many == 0 || m.next(12) == 0 {
		return wrongs(many)[m.next(len(wrongs(many)))]
	}
	return m.next(many)
}

// dest is a destination.
func (m *maker) dest() api.Dest {
	if m.next(4) == 0 {
		return api.Dest{Root: true, Index: m.index(m.w.g.Roots), Object: m.at()}
	}
	at, many := m.at(), 0
	if x := m.w.plain.things[at]; x != nil {
		many = len(x.slots)
	}
	return slot(at, m.index(many))
}

// empty is a destination that points to nothing, if one is found.
func (m *maker) empty() api.Dest {
	for range 30 {
		d := m.dest()
		if cell, _ := m.w.plain.dest(d); cell != nil && *cell == 0 {
			return d
		}
	}
	return m.dest()
}

// last is a destination that alone points to an object, which points to nothing, if one is found.
func (m *maker) last() api.Dest {
	for range 30 {
		d := m.dest()
		if cell, _ := m.w.plain.dest(d); cell != nil && *cell != 0 && m.w.plain.things[*cell].refs == 1 {
			return d
		}
	}
	return m.dest()
}

// datum is where a datum is.
func (m *maker) datum() (at, i, many int) {
	at = m.at()
	if x := m.w.plain.things[at]; x != nil {
		many = len(x.data)
	}
	return at, m.index(many), many
}

// target is what a pointer may be set to.
func (m *maker) target() int {
	if m.next(4) == 0 {
		return 0
	}
	return m.at()
}

// edit is one of a batch.
func (m *maker) edit() api.Edit {
	if m.next(2) == 0 {
		return points(m.dest(), m.target())
	}
	at, i, _ := m.datum()
	return writes(at, i, uint64(m.next(5)))
}

// edits are those of a batch, mostly few.
func (m *maker) edits() []api.Edit {
	many := 1 + m.next(4)
	if m.next(6) == 0 {
		many = []int{0, 5, 8, 12, 15, 16, 16, 16, 17}[m.next(9)]
	}
	var l []api.Edit
	for range many {
		l = append(l, m.edit())
	}
	return l
}

// words is how many words are asked for.
func (m *maker) words() int {
	l := []int{1, 2, 3, 4, 7, 8, 15, 1, 3, 5, 1, 3, 6, 1, 2, 9, 16, 63, 64, 127, 128, 191, 192, 255, 0, 256, -1}
	return l[m.next(len(l))]
}

// slots is how many slots are asked for.
func (m *maker) slots(words int) int {
	if words < 1 || m.next(30) == 0 {
		return []int{0, words, words + 1, -1, 256}[m.next(5)]
	}
	return m.next(min(words, 5) + 1)
}

// call is a call of the who.
func (m *maker) call(who int) api.Call {
	if m.next(40) == 0 {
		who = wrongs(m.w.g.Lanes)[m.next(10)]
	}
	at, i, many := m.datum()
	switch m.next(16) {
	case 0, 1, 2, 3:
		words := m.words()
		return by(who, malloc(m.empty(), words, m.slots(words)))
	case 4:
		return by(who, malloc(m.dest(), m.words(), 0))
	case 5, 6, 7:
		return by(who, free(m.last()))
	case 8:
		return by(who, free(m.dest()))
	case 9, 10:
		return by(who, set(m.dest(), m.target()))
	case 11:
		return by(who, get(m.dest()))
	case 12:
		return by(who, write(at, i, uint64(m.next(1000))))
	case 13:
		return by(who, read(at, i))
	case 14:
		return by(who, persist(at, i, m.index(max(many-i, 0))+1))
	}
	if m.next(10) == 0 {
		return by(who, api.Call{Kind: wrongs(9)[m.next(20)], Words: 3, Dest: root(0)})
	}
	return by(who, tx(m.edits()...))
}

// script does so many calls, by all whos, and opens the region anew each time that so many were done.
func script(w *world, calls, anew, seed int) *world {
	m := &maker{w, chance(seed)}
	for i := range calls {
		w.do(m.call(m.next(w.g.Lanes)))
		if i%anew == anew-1 {
			w = w.reopened()
			m.w = w
		}
	}
	return w
}

// Calls in many orders, beside the plain model; with garbage, as the calls leave some, and with heaps of images that have objects.
func TestP19_1Scripts(t *testing.T) {
	for seed, g := range []api.Geometry{least, middle, most, {Spans: 2, Lanes: 1, Roots: 8}, {Spans: 3, Lanes: 4, Roots: 2}, {Spans: 9, Lanes: 2, Roots: 3}} {
		script(fresh(t, g), 3000, 211, seed)
		script(fresh(t, g), 2000, 997, seed+50)
	}
}

// Likewise step by step: what each step turns, and what is sealed.
func TestP19_1ScriptsStepwise(t *testing.T) {
	for seed, g := range []api.Geometry{least, middle, {Spans: 3, Lanes: 2, Roots: 2}} {
		w := fresh(t, g)
		w.stepwise = true
		script(w, 700, 150, seed+100)
	}
}
