package deeds

import (
	"slices"

	"trencher/addr"
	"trencher/api"
	"trencher/bits"
	"trencher/block"
	"trencher/classes"
	"trencher/entry"
	"trencher/geom"
	"trencher/head"
	"trencher/lane"
)

const (
	firstWords = 1 // how many words a block has ahead of its object's
	mapAt      = 1 // where in a head its map stands, behind its word
)

// mapOf is the address of a span's map.
func (a *act) mapOf(span int) int {
	return geom.Head(a.geometry, span) + mapAt
}

// load is the word at an address, as it would be if what is to be published were.
func (a *act) load(at int) uint64 {
	for _, w := range slices.Backward(a.writes) {
		if w.At == at {
			return w.X
		}
	}
	return a.Load(at)
}

// spot is the spot of a block of so many words that begins at an address.
func (a *act) spot(at, words int) api.Spot {
	p := geom.Where(a.geometry, at)
	return api.Spot{Span: p.Part, Index: p.Off / words, Words: words}
}

// blockWords is how many words the block has that begins at an address; 0, if none does.
func (a *act) blockWords(at int) int {
	return a.once(func() int {
		s, _ := addr.Spot(a.geometry, a.heap.Heads(), at)
		return s.Words
	})
}

// classOf is the class of blocks of so many words: that of the greatest object with room in them.
func classOf(words int) int {
	return classes.Of(words - firstWords)
}

// object is the one that is there at an address; false, if none is. At 0 there is nothing, which needn't be looked at.
func (a *act) object(at int) (api.Live, bool) {
	if at == 0 {
		return api.Live{}, false
	}
	words := a.blockWords(at)
	if words == 0 {
		return api.Live{}, false
	}
	s := a.spot(at, words)
	if !bits.Has(a.load(a.mapOf(s.Span)), s.Index) {
		return api.Live{}, false
	}
	o, code := block.Read(a.load(at), classOf(words))
	if code != api.OK || o == (api.Object{}) {
		return api.Live{}, false
	}
	return api.Live{At: at, Object: o, Spot: s}, true
}

// dest is the address of a destination's word; false, if the destination isn't there.
func (a *act) dest(d api.Dest) (int, bool) {
	if d.Root {
		at := geom.Root(a.geometry, d.Index)
		return at, at >= 0
	}
	o, ok := a.object(d.Object)
	at := block.Slot(o.Object, o.At, d.Index)
	return at, ok && at >= 0
}

// data is where so many data of an object begin, from one of them on: ErrStale, if no object is there; ErrRange, if they aren't as many.
func (a *act) data(object, i, many int) (int, api.Errno) {
	o, ok := a.object(object)
	if !ok {
		return 0, api.ErrStale
	}
	// A sum that wraps round is below 0, and so no datum's.
	first, last := block.Data(o.Object, o.At, i), block.Data(o.Object, o.At, i+many-1)
	if many < 1 || first < 0 || last < 0 {
		return 0, api.ErrRange
	}
	return first, api.OK
}

// blank has the stores of 0 in so many words, from an address on.
func blank(from, many int) []api.Entry {
	l := make([]api.Entry, many)
	for i := range l {
		l[i].At = from + i
	}
	return l
}

// heads has the stores of the words of these heads, which may be, in spans from one on.
func (a *act) heads(span int, heads ...api.Head) []api.Entry {
	var l []api.Entry
	for i, h := range heads {
		x, _ := head.Word(h)
		l = append(l, api.Entry{At: geom.Head(a.geometry, span+i), X: x})
	}
	return l
}

// flush flushes the lines of these addresses, and a fence.
func (a *act) flush(l ...api.Entry) {
	for _, line := range lane.Lines(l) {
		a.Flush(line)
	}
	a.Fence()
}

// keep does the stores, and keeps them. They are of what nothing that is published leads to.
func (a *act) keep(l ...api.Entry) {
	for _, w := range l {
		a.Store(w.At, w.X)
	}
	a.flush(l...)
}

// come lets words come to what is to be published.
func (a *act) come(l ...api.Entry) {
	a.writes = append(a.writes, l...)
}

// words are what is to be published: of each address what came last.
func (a *act) words() []api.Entry {
	return entry.Last(a.writes)
}

// publish lets what is to be published go through the caller's lane. Of nothing no step is done.
func (a *act) publish() {
	// These are words of roots, heads and objects, so that the log may go.
	lane.Through(a.Env, a.geometry, a.call.Who, a.words())
}
