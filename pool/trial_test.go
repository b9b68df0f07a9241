package pool_test

import (
	"math"
	"testing"

	"trencher/api"
	"trencher/image"
	"trencher/pool"
)

// A trial is a pool, beside one that is done by hand, and beside objects that point to one another.
type trial struct {
	t     *testing.T
	pool  *pool.Pool
	hand  *hand
	plain *plain
}

// formatted is a trial of a pool that was formatted just now.
func formatted(t *testing.T, g api.Geometry) *trial {
	t.Helper()
	p := pool.Format(g)
	if p == nil {
		t.Fatalf("%v: none", g)
	}
	return &trial{t, p, byHand(image.Fresh(g)), blank(g)}
}

// opened is a trial of a pool that was opened of the words that another one sees, with the objects that are left then.
func opened(t *testing.T, words []uint64, was *plain) *trial {
	t.Helper()
	p, code := pool.Open(words)
	if p == nil || code != 0 {
		t.Fatalf("%v, %d", p, code)
	}
	tr := &trial{t, p, byHand(words), was.opened()}
	if code := tr.hand.opened(-1); code != 0 {
		t.Fatalf("by hand %d", code)
	}
	return tr
}

// again is a trial of what is left once what programs see is opened.
func (tr *trial) again() *trial {
	return opened(tr.t, tr.pool.Region().Seen(), tr.plain)
}

// full tells whether there is neither a block nor a span for what a call asks for.
func (tr *trial) full(c api.Call) bool {
	if c.Kind != 1 || c.Words < 1 || c.Words > 255 {
		return false
	}
	h, class := tr.pool.Heap(), classOf(c.Words)
	if class < 4 {
		return len(h.Cache(c.Who, class)) == 0 && len(h.List(class)) == 0 && h.Room(1) < 0
	}
	return h.Room(c.Words/64+1) < 0
}

// do does a call, in some way, and holds what it told and left behind against what it should have: its answer.
func (tr *trial) do(way int, c api.Call) api.Answer {
	tr.t.Helper()
	full := tr.full(c)
	got := done(tr.t, tr.pool, way, c)
	want := tr.plain.do(c, full, got.At)
	if hand := tr.hand.do(c); !agrees(got, want) || hand != want {
		tr.t.Fatalf("%+v: %v, not %v; by hand %v", c, got, want, hand)
	}
	like(tr.t, c, tr.pool, tr.hand)
	return want
}

// makes makes an object by Do: its address.
func (tr *trial) makes(d api.Dest, words, slots int) int {
	tr.t.Helper()
	a := tr.do(atOnce, malloc(d, words, slots))
	if a.Code != 0 {
		tr.t.Fatalf("%v, %d words: %d", d, words, a.Code)
	}
	return a.At
}

// does does calls by Do, all of which should be done.
func (tr *trial) does(l ...api.Call) {
	tr.t.Helper()
	for _, c := range l {
		if a := tr.do(atOnce, c); a.Code != 0 {
			tr.t.Fatalf("%+v: %d", c, a.Code)
		}
	}
}

// fails lets power fail, with fuses by FailIn, else by Fail.
func (tr *trial) fails(pick func() func(int) int, fuses ...int) {
	tr.t.Helper()
	code := api.Errno(-1)
	if len(fuses) > 0 {
		code = tr.pool.FailIn(fuses, pick())
	} else {
		code = tr.pool.Fail(pick())
	}
	if hand := tr.hand.fails(pick(), fuses...); code != 0 || hand != 0 {
		tr.t.Fatalf("fuses %v: %d, by hand %d", fuses, code, hand)
	}
	tr.plain = tr.plain.opened()
	tr.right("behind power that failed")
}

// right checks that a region that was just opened is one of the objects that there should be, all of which are kept, and of nothing else; what their data are is known from then on.
func (tr *trial) right(what any) {
	tr.t.Helper()
	like(tr.t, what, tr.pool, tr.hand)
	seen, kept := tr.pool.Region().Seen(), tr.pool.Region().Kept()
	if !tr.plain.isImage(seen) || differ(seen, kept) >= 0 {
		tr.t.Fatalf("%v: other objects", what)
	}
	if l := owners(tr.pool.Locks()); l != [2]int{-1, -1} {
		tr.t.Fatalf("%v: %v have locks", what, l)
	}
	census(tr.t, what, tr.pool, false)
	tr.plain.settled(seen)
}

// maker makes calls of all kinds, right and wrong, that look as if they were by chance.
type maker struct {
	tr   *trial
	next func(int) int
}

// wrongAt is an address at which no object is, or may be none.
func (m *maker) wrongAt() int {
	g := m.tr.plain.g
	l := []int{0, -1, 8, laneAt(0), headAt(g, 0), headAt(g, 0) + 1, spanAt(g, 0), spanAt(g, 0) - 1, total(g), total(g) + 64, math.MaxInt, math.MinInt, 1 << 32, 1<<32 + spanAt(g, 0)}
	if m.next(2) == 0 {
		return l[m.next(len(l))]
	}
	return spanAt(g, 0) + m.next(g.Spans*64)
}

// at is an object's address, mostly.
func (m *maker) at() int {
	l := m.tr.plain.addresses()
	if len(l) == 0 || m.next(12) == 0 {
		return m.wrongAt()
	}
	return l[m.next(len(l))]
}

// index is one of so many, mostly.
func (m *maker) index(many int) int {
	if many == 0 || m.next(12) == 0 {
		return wrongs(many)[m.next(len(wrongs(many)))]
	}
	return m.next(many)
}

// dest is a destination.
func (m *maker) dest() api.Dest {
	if m.next(3) == 0 {
		return root(m.index(m.tr.plain.g.Roots))
	}
	at, many := m.at(), 0
	if x := m.tr.plain.things[at]; x != nil {
		many = len(x.slots)
	}
	return slot(at, m.index(many))
}

// empty is a destination that points to nothing, if one is found.
func (m *maker) empty() api.Dest {
	for range 20 {
		d := m.dest()
		if cell := m.tr.plain.dest(d); cell != nil && *cell == 0 {
			return d
		}
	}
	return m.dest()
}

// last is a destination that alone points to an object, if one is found.
func (m *maker) last() api.Dest {
	for range 20 {
		d := m.dest()
		if cell := m.tr.plain.dest(d); cell != nil && *cell != 0 && m.tr.plain.things[*cell].refs == 1 {
			return d
		}
	}
	return m.dest()
}

// datum is where a datum is, and how many its object has.
func (m *maker) datum() (at, i, many int) {
	at = m.at()
	if x := m.tr.plain.things[at]; x != nil {
		many = len(x.data)
	}
	return at, m.index(many), many
}

// target is what a pointer may be set to.
func (m *maker) target() int {
	if m.next(4) == 0 {
		return 0
	}
	return m.at()
}

// edits are those of a batch, mostly few.
func (m *maker) edits() []api.Edit {
	many := 1 + m.next(4)
	if m.next(6) == 0 {
		many = []int{0, 5, 8, 12, 15, 16, 16, 16, 17}[m.next(9)]
	}
	var l []api.Edit
	for range many {
		if m.next(2) == 0 {
			l = append(l, points(m.dest(), m.target()))
			continue
		}
		at, i, _ := m.datum()
		l = append(l, writes(at, i, uint64(m.next(5))))
	}
	return l
}

// words is how many words are asked for.
func (m *maker) words() int {
	l := []int{1, 2, 3, 4, 7, 8, 15, 1, 3, 5, 1, 3, 6, 1, 2, 9, 16, 63, 64, 127, 128, 191, 192, 255, 0, 256, -1}
	return l[m.next(len(l))]
}

// slots is how many slots are asked for.
func (m *maker) slots(words int) int {
	if words < 1 || m.next(30) == 0 {
		return []int{0, words, words + 1, -1, 256}[m.next(5)]
	}
	return m.next(min(words, 5) + 1)
}

// call is a call of some who.
func (m *maker) call() api.Call {
	lanes := m.tr.plain.g.Lanes
	who := m.next(lanes)
	if m.next(40) == 0 {
		who = wrongs(lanes)[m.next(10)]
	}
	at, i, many := m.datum()
	switch m.next(16) {
	case 0, 1, 2, 3:
		words := m.words()
		return by(who, malloc(m.empty(), words, m.slots(words)))
	case 4:
		return by(who, malloc(m.dest(), m.words(), 0))
	case 5, 6:
		return by(who, free(m.last()))
	case 7:
		return by(who, free(m.dest()))
	case 8, 9:
		return by(who, set(m.dest(), m.target()))
	case 10:
		return by(who, get(m.dest()))
	case 11, 12:
		return by(who, write(at, i, uint64(m.next(1000))))
	case 13:
		return by(who, read(at, i))
	case 14:
		return by(who, persist(at, i, m.index(max(many-i, 0))+1))
	}
	if m.next(10) == 0 {
		return by(who, api.Call{Kind: wrongs(9)[m.next(20)], Words: 3, Dest: root(0)})
	}
	return by(who, tx(m.edits()...))
}
