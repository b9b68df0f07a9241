package deeds

import (
	"trencher/api"
	"trencher/bits"
	"trencher/block"
	"trencher/classes"
	"trencher/geom"
	"trencher/heap"
)

// mostSlots is how many slots an object may have.
const mostSlots = 255

// nowhere is told of a cache instead of a block's address, if it has none.
const nowhere = -1

// malloc lets an object begin, to which a destination points.
func (a *act) malloc() api.Answer {
	c := a.call
	class := classes.Of(c.Words)
	switch {
	case c.Slots < 0, c.Slots > c.Words, c.Slots > mostSlots:
		return refused(api.ErrArg)
	case class < 0:
		return refused(api.ErrSize)
	case c.Dest.Root && geom.Root(a.geometry, c.Dest.Index) < 0:
		return refused(api.ErrDest)
	case class == api.Large:
		return a.large(classes.Spans(c.Words))
	}
	return a.small(class)
}

// small lets an object begin in a block of the caller's cache.
func (a *act) small(class int) api.Answer {
	taken := a.taken(class)
	if taken.Code != api.OK {
		return taken
	}
	return a.under(api.LockPublish, func() api.Answer {
		answer := a.begin(taken.At, classes.Size(class))
		if answer.Code != api.OK {
			a.give(class, taken.At)
		}
		return answer
	})
}

// large lets an object begin in a block of so many spans. They are the heap's till it has begun, as nobody else has its lock.
func (a *act) large(many int) api.Answer {
	inside := func() api.Answer {
		span := a.once(func() int { return a.heap.Room(many) })
		if span < 0 {
			return refused(api.ErrMemory)
		}
		answer := a.begin(geom.Span(a.geometry, span), many*api.SpanWords, a.heads(span, whole(many)...)...)
		if answer.Code == api.OK {
			a.once(func() int { return int(a.heap.Large(span, many)) })
		}
		return answer
	}
	return a.under(api.LockHeap, func() api.Answer {
		return a.under(api.LockPublish, inside)
	})
}

// begin lets the object that is asked for begin in a free block of so many words, and the destination point to it; what else there is of it is published, too.
func (a *act) begin(at, words int, more ...api.Entry) api.Answer {
	c := a.call
	to, ok := a.dest(c.Dest)
	if !ok {
		return refused(api.ErrDest)
	}
	if a.load(to) != 0 {
		return refused(api.ErrSet)
	}
	a.keep(blank(at+firstWords, c.Words)...)
	s := a.spot(at, words)
	set := a.mapOf(s.Span)
	// What was asked for may be in a block of its class.
	first, _ := block.Word(api.Object{Refs: 1, Slots: c.Slots, Words: c.Words})
	a.come(
		api.Entry{At: at, X: first},
		api.Entry{At: set, X: bits.With(a.load(set), s.Index)},
		api.Entry{At: to, X: uint64(at)},
	)
	a.come(more...)
	a.publish()
	return api.Answer{At: at}
}

// whole has the heads of a large block of so many spans.
func whole(many int) []api.Head {
	l := make([]api.Head, many)
	for i := range l {
		l[i] = api.Head{Kind: api.SpanMore, Class: api.Large, Many: i}
	}
	l[0] = api.Head{Kind: api.SpanLarge, Class: api.Large, Many: many}
	return l
}

// take is a block that goes from the caller's cache; nowhere, if there is none.
func (a *act) take(class int) int {
	return a.once(func() int {
		at, ok := a.heap.Take(a.call.Who, class)
		if !ok {
			return nowhere
		}
		return at
	})
}

// give lets a block come to the caller's cache.
func (a *act) give(class, at int) {
	a.once(func() int {
		a.heap.Give(a.call.Who, class, at)
		return 0
	})
}

// refill refills the caller's cache: how many came.
func (a *act) refill(class int) int {
	return a.once(func() int { return a.heap.Refill(a.call.Who, class) })
}

// taken is a block that goes from the caller's cache, which is refilled if it has none: ErrMemory, if there are no blocks, and no span for such.
func (a *act) taken(class int) api.Answer {
	if at := a.take(class); at != nowhere {
		return api.Answer{At: at}
	}
	return a.under(api.LockHeap, func() api.Answer {
		if a.refill(class) == 0 && a.carve(class) {
			a.refill(class)
		}
		at := a.take(class)
		if at == nowhere {
			return refused(api.ErrMemory)
		}
		return api.Answer{At: at}
	})
}

// carve makes the least free span small, which is kept ahead of any object in it; false, if none is free.
func (a *act) carve(class int) bool {
	span := a.once(func() int { return a.heap.Room(1) })
	if span < 0 {
		return false
	}
	a.keep(a.heads(span, api.Head{Kind: api.SpanSmall, Class: class})...)
	a.once(func() int { return int(a.heap.Carve(span, class)) })
	return true
}

// free lets the object end to which a destination points.
func (a *act) free() api.Answer {
	var class int
	answer := a.under(api.LockPublish, func() api.Answer {
		to, o, code := a.ending()
		if code != api.OK {
			return refused(code)
		}
		class = classes.Of(o.Object.Words)
		a.end(to, o)
		a.back(class, o)
		return api.Answer{At: o.At}
	})
	if answer.Code != api.OK || !a.isOver(class) {
		return answer
	}
	return a.under(api.LockHeap, func() api.Answer {
		a.drain(class)
		return answer
	})
}

// ending is the object that may end to which the destination points, and the address of what points to it.
func (a *act) ending() (int, api.Live, api.Errno) {
	to, ok := a.dest(a.call.Dest)
	if !ok {
		return 0, api.Live{}, api.ErrDest
	}
	at := int(a.load(to))
	if at == 0 {
		return 0, api.Live{}, api.ErrNone
	}
	// If no object is there, nothing points to it, so that it can't end either.
	o, _ := a.object(at)
	if o.Object.Refs != 1 {
		return 0, api.Live{}, api.ErrShared
	}
	for slot := range o.Object.Slots {
		if a.load(block.Slot(o.Object, o.At, slot)) != 0 {
			return 0, api.Live{}, api.ErrHeld
		}
	}
	return to, o, api.OK
}

// end lets an object end, to which a pointer at that address points. A small block has no spans of its own, whose heads would be freed.
func (a *act) end(to int, o api.Live) {
	set := a.mapOf(o.Spot.Span)
	a.come(
		api.Entry{At: to},
		api.Entry{At: set, X: bits.Without(a.load(set), o.Spot.Index)},
		api.Entry{At: o.At},
	)
	a.come(a.heads(o.Spot.Span, make([]api.Head, o.Spot.Words/api.SpanWords)...)...)
	a.publish()
}

// back lets the block of an object that has ended be free again: in the caller's cache, or as free spans.
func (a *act) back(class int, o api.Live) {
	if class != api.Large {
		a.give(class, o.At)
		return
	}
	a.once(func() int { return int(a.heap.Loose(o.Spot.Span)) })
}

// isOver tells whether the caller's cache has more than it keeps. For large blocks there is none.
func (a *act) isOver(class int) bool {
	return a.once(func() int { return len(a.heap.Cache(a.call.Who, class)) }) > heap.Keep
}

// drain drains the caller's cache, and releases the least empty span, if there is one.
func (a *act) drain(class int) {
	a.once(func() int { return a.heap.Drain(a.call.Who, class) })
	span := a.once(a.heap.Empty)
	if span < 0 {
		return
	}
	a.keep(a.heads(span, api.Head{})...)
	a.once(func() int { return int(a.heap.Release(span)) })
}
