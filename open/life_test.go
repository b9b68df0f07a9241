package open_test

import (
	"slices"
	"testing"

	"trencher/addr"
	"trencher/api"
	"trencher/deeds"
	"trencher/env"
	"trencher/heap"
	"trencher/image"
	"trencher/locks"
	"trencher/mark"
	"trencher/mend"
	"trencher/open"
	"trencher/pmem"
)

// A life is a region on which calls are done, and which is opened whenever power failed.
type life struct {
	t     *testing.T
	g     api.Geometry
	r     *pmem.Region
	locks *locks.Table
	heap  *heap.Heap
	dice  dice
	live  []int // where objects are, or were
}

// pointer is 0, or where an object is, or was.
func (l *life) pointer() int {
	if len(l.live) == 0 || l.dice.below(4) == 0 {
		return 0
	}
	return l.live[l.dice.below(len(l.live))]
}

// dest is a root, or a slot of an object.
func (l *life) dest() api.Dest {
	if at := l.pointer(); at != 0 {
		return api.Dest{Object: at, Index: l.dice.below(3)}
	}
	return api.Dest{Root: true, Index: l.dice.below(l.g.Roots)}
}

// call is any one.
func (l *life) call() api.Call {
	d := &l.dice
	sizes := []int{1, 1, 2, 3, 5, 7, 12, 15, 16, 40, 63, 64, 130, 200}
	c := api.Call{Who: d.below(l.g.Lanes), Dest: l.dest(), Target: l.pointer(), Many: 1, X: d.word()}
	switch d.below(10) {
	case 0, 1, 2, 3, 4:
		c.Kind, c.Words = api.CallMalloc, sizes[d.below(len(sizes))]
		c.Slots = min(c.Words, 1+d.below(3))
	case 5:
		c.Kind = api.CallFree
	case 6:
		c.Kind = api.CallSet
	case 7:
		c.Kind = api.CallWrite
	case 8:
		c.Kind = api.CallPersist
	default:
		c.Kind = api.CallTx
		for range 1 + d.below(4) {
			c.Edits = append(c.Edits, api.Edit{Dest: l.dest(), Target: l.pointer(), Data: d.below(2) == 0, X: d.word()})
		}
	}
	return c
}

// run is that of a call.
func (l *life) run(c api.Call) *env.Run {
	return env.New(l.r, l.locks, c.Who, deeds.Deed(l.g, l.heap, c))
}

// do does a call.
func (l *life) do(c api.Call) {
	l.t.Helper()
	x := l.run(c)
	if code := x.All(-1); code != api.OK {
		l.t.Fatalf("%v: %+v: %d", l.g, c, code)
	}
	if a := deeds.Answer(x.Answer()); c.Kind == api.CallMalloc && a.Code == api.OK {
		l.live = append(l.live, a.At)
	}
}

// begin does some steps of a call: it stops anywhere, most likely where its log is sealed.
func (l *life) begin(c api.Call) {
	x := l.run(c)
	for x.Step() == env.Stepped && l.dice.below(100) > 0 {
		if seal, _ := l.r.Load(laneAt(c.Who)); seal != 0 && l.dice.below(9) == 0 {
			return
		}
	}
}

// opened lets power fail, and opens the region, while which power fails again and again; and looks at what is there then.
func (l *life) opened() {
	l.t.Helper()
	l.r.Crash(l.dice.below)
	l.locks.Drop()
	want, code := mend.Mended(l.r.Kept())
	if code != api.OK {
		l.t.Fatalf("%v: %d", l.g, code)
	}
	for l.dice.below(2) == 0 {
		begun(l.r, l.r.Size(), l.r.Size()+l.dice.below(60))
		l.r.Crash(l.dice.below)
	}
	told(l.t, l.g, begun(l.r, l.r.Size(), open.Bound(l.r.Size())), api.OK)
	settled(l.t, l.g, l.r, want)
	g, h, code := open.Heap(l.r.Seen())
	if g != l.g || code != api.OK {
		l.t.Fatalf("%v: %v, %d", l.g, g, code)
	}
	l.heap = h
	l.census()
}

// census checks that each block is one that is reached, or free, just once; and nothing is garbage.
func (l *life) census() {
	l.t.Helper()
	words := l.r.Seen()
	live, code := mark.Reach(l.g, words)
	if code != api.OK || mark.Garbage(l.g, words) != 0 {
		l.t.Fatalf("%v: %d, garbage", l.g, code)
	}
	l.live = nil
	for _, o := range live {
		l.live = append(l.live, o.At)
	}
	blocks := append(l.heap.Free(), l.live...)
	slices.Sort(blocks)
	if all := addr.All(l.g, l.heap.Heads()); !slices.Equal(blocks, all) {
		l.t.Fatalf("%v: blocks %v, not %v", l.g, blocks, all)
	}
}

// What calls leave behind when power fails at any step of theirs is opened, again and again, and goes on.
func TestP20_4Lives(t *testing.T) {
	for i, g := range few() {
		most := 0
		for seed := range 12 {
			_, h, _ := open.Heap(image.Fresh(g))
			l := &life{t: t, g: g, r: pmem.Of(image.Fresh(g)), locks: locks.New(api.Locks), heap: h, dice: dice(seed*100 + i)}
			for range 25 {
				for range l.dice.below(20) {
					l.do(l.call())
				}
				for range 1 + l.dice.below(2) {
					l.begin(l.call())
				}
				most = max(most, len(l.live))
				l.opened()
			}
		}
		if most < 2 {
			t.Fatalf("%v: at most %d objects", g, most)
		}
	}
}
