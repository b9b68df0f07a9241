package open_test

import (
	"slices"

	"trencher/api"
)

// A picture is an image that is drawn: its geometry, its heads, its words.
type picture struct {
	g     api.Geometry
	heads []api.Head
	words []uint64
}

// drawn is a picture of just the spans of these heads, without objects.
func drawn(lanes, roots int, heads []api.Head) picture {
	g := api.Geometry{Spans: len(heads), Lanes: lanes, Roots: roots}
	p := picture{g, heads, append(super(g), make([]uint64, total(g)-8)...)}
	for span, h := range heads {
		p.words[headAt(g, span)] = headWord(h)
	}
	return p
}

// copied is a picture like another one.
func (p picture) copied() picture {
	return picture{p.g, slices.Clone(p.heads), slices.Clone(p.words)}
}

// size is how many words a block of a span has.
func (p picture) size(span int) int {
	return []int{2, 4, 8, 16, 64 * p.heads[span].Many}[p.heads[span].Class]
}

// at is where a block of a span begins.
func (p picture) at(span, index int) int {
	return spanAt(p.g, span) + index*p.size(span)
}

// lay lays an object into a block of a span, with its bit, and tells where. What isn't one of its pointers, of its other slots, is 0; its Refs, its data, and what is unused behind them, look like anything.
func (p picture) lay(span, index, words, slots int, pointers ...int) int {
	at := p.at(span, index)
	d := dice(at)
	p.words[at] = firstWord(2000+d.below(60000), slots, words)
	for a := at + 1 + slots; a < at+p.size(span); a++ {
		p.words[a] = d.word()
	}
	for i := range slots {
		p.words[at+1+i] = 0
	}
	for i, to := range pointers {
		p.words[at+1+i] = uint64(to)
	}
	p.words[mapAt(p.g, span)] |= 1 << index
	return at
}

// roots lets the first roots point.
func (p picture) roots(pointers ...int) picture {
	for i, to := range pointers {
		p.words[rootAt(i)] = uint64(to)
	}
	return p
}

// with is a picture with these words stored.
func (p picture) with(l ...api.Entry) picture {
	return picture{p.g, p.heads, with(p.words, l...)}
}

// A place is where a block is: its span and its index there.
type place struct{ span, index int }

// places are the blocks of a picture's spans, by rising addresses, but those of large blocks of which spans are missing.
func (p picture) places() []place {
	var l []place
	for span, h := range p.heads {
		many := 0
		switch {
		case h.Kind == 1:
			many = 64 / p.size(span)
		case h.Kind == 2 && span+h.Many <= len(p.heads) && slices.Equal(p.heads[span:span+h.Many], block(h.Many)):
			many = 1
		}
		for i := range many {
			l = append(l, place{span, i})
		}
	}
	return l
}

// sizes are the least and the greatest numbers of words of objects that a block of a span has room for.
func (p picture) sizes(span int) (least, most int) {
	if p.heads[span].Kind == 2 {
		return max(16, p.size(span)-64), p.size(span) - 1
	}
	return p.size(span) / 2, p.size(span) - 1
}

// layouts are lists of heads: of one span, of some, and of as many as there may be; also such in which spans aren't whole.
func layouts() [][]api.Head {
	l := [][]api.Head{
		join(of(free, small(0)), block(4), of(small(1)), block(3), of(small(2), free), block(1), block(2), of(small(3))),
		join(of(small(3), small(2), small(1), small(0), free), block(2), block(2), block(4), block(1), of(small(0), small(3))),
		join(block(4), block(4), block(4), block(4)),
		times(16, small(0)),
		times(16, free),
		join(block(3), block(4)[3:], block(2), block(4)[2:], of(small(1))),
		join(block(4)[1:], block(4), block(2)[1:], of(small(1)), block(2)[:1]),
		block(2)[:1], block(2)[1:], join(of(small(2)), block(4)[:1]), of(free, small(1), free),
	}
	for class := range 4 {
		l = append(l, of(small(class)), of(small(class), small(3-class)))
	}
	for many := 1; many <= 4; many++ {
		l = append(l, block(many), join(of(small(0)), block(many), of(small(3))))
	}
	return l
}

// crowded is a picture with objects in many blocks, whose slots and roots point to one another, and garbage.
func crowded(seed int, heads []api.Head) picture {
	d := dice(seed)
	p := drawn(1+d.below(4), 1+d.below(8), heads)
	var there []place
	for _, b := range p.places() {
		if d.below(4) > 0 {
			there = append(there, b)
		}
	}
	pointer := func() int {
		if len(there) == 0 || d.below(3) == 0 {
			return 0
		}
		b := there[d.below(len(there))]
		return p.at(b.span, b.index)
	}
	for _, b := range there {
		least, most := p.sizes(b.span)
		words := least + d.below(most-least+1)
		slots := []int{0, words, d.below(words + 1), min(2, words)}[d.below(4)]
		var pointers []int
		for range slots {
			pointers = append(pointers, pointer())
		}
		p.lay(b.span, b.index, words, slots, pointers...)
	}
	for i := range p.g.Roots {
		p.words[rootAt(i)] = uint64(pointer())
	}
	return p
}

// spoiled is a picture in which unused words of heads and lanes look like anything, no lane counts, and all maps have more bits.
func spoiled(seed int, p picture) picture {
	d, q := dice(seed), p.copied()
	for a := laneAt(0); a < headAt(q.g, 0); a++ {
		q.words[a] = d.word()
	}
	for a := headAt(q.g, 0); a < spanAt(q.g, 0); a++ {
		switch a % 8 {
		case 0:
		case 1:
			// Some of the bits, so that not all that isn't reached becomes garbage.
			q.words[a] |= d.word() & d.word()
		default:
			q.words[a] = d.word()
		}
	}
	return q
}

// wronged is a picture in which some words of roots and of the heap point anywhere.
func wronged(seed int, p picture) picture {
	d, q := dice(seed), p.copied()
	for range 1 + d.below(3) {
		at := spanAt(q.g, 0) + d.below(64*q.g.Spans)
		if d.below(8) == 0 {
			at = rootAt(d.below(q.g.Roots))
		}
		q.words[at] = uint64(d.below(total(q.g)))
	}
	return q
}

// logged is a picture with logs in some lanes, which write roots, heads, maps, and words of the heap.
func logged(seed int, p picture) picture {
	d, q := dice(seed), p.copied()
	all := q.places()
	for n := range q.g.Lanes {
		if d.below(4) == 0 {
			continue
		}
		var log []api.Entry
		for range 1 + d.below(16) {
			log = append(log, q.entry(&d, all))
		}
		written(q.words, n, log...)
	}
	return q
}

// entry is one of a log that may write into the picture, and leaves it such as can be mended.
func (p picture) entry(d *dice, all []place) api.Entry {
	span := d.below(p.g.Spans)
	root := api.Entry{At: rootAt(d.below(p.g.Roots))}
	switch kind := d.below(6); {
	case kind == 0:
		return api.Entry{At: mapAt(p.g, span), X: p.words[mapAt(p.g, span)] | d.word()}
	case kind == 1:
		return api.Entry{At: headAt(p.g, span), X: p.words[headAt(p.g, span)]}
	case kind == 5 || len(all) == 0:
		return root
	case kind == 2:
		b := all[d.below(len(all))]
		words, _ := p.sizes(b.span)
		return api.Entry{At: p.at(b.span, b.index), X: firstWord(d.below(65536), 0, words)}
	}
	b := all[d.below(len(all))]
	if at := p.at(b.span, b.index); p.words[at] != 0 {
		root.X = uint64(at)
	}
	return root
}

// scene is a small picture: roots 0 and 2 lead, by ways of one, two and three slots, to small objects of some classes, and a large one; there is garbage beside it, which points to what is reached, to itself, and to nothing right; two spans have no object that is reached. Its Refs are all more than there are.
func scene() picture {
	p := drawn(2, 3, join(of(small(1), free), block(2), of(small(0), small(3), small(2)), block(1)))
	a, b, c, l, w := p.at(0, 0), p.at(0, 15), p.at(4, 31), p.at(2, 0), p.at(5, 1)
	p.lay(0, 0, 3, 2, b, l)
	p.lay(0, 15, 2, 1, a)
	p.lay(4, 31, 1, 1, c)
	p.lay(2, 0, 100, 3, b, 0, c)
	p.lay(5, 1, 15, 15, a, a, 0, w)
	p.lay(0, 3, 3, 3, a, p.at(0, 3), 5)
	p.lay(4, 0, 1, 1, p.at(0, 3))
	p.lay(5, 3, 9, 4, p.at(4, 0), w, p.at(5, 3)+1, total(p.g))
	p.lay(6, 2, 7, 1, a)
	p.lay(7, 0, 60, 2, w, p.at(7, 0))
	return p.roots(a, 0, w)
}

// sceneFixes are the scene's.
func sceneFixes() []api.Entry {
	p := scene()
	return []api.Entry{
		{At: mapAt(p.g, 0), X: 1 + 1<<15}, {At: mapAt(p.g, 4), X: 1 << 31}, {At: mapAt(p.g, 5), X: 2},
		{At: headAt(p.g, 6), X: 0}, {At: mapAt(p.g, 6), X: 0}, {At: headAt(p.g, 7), X: 0}, {At: mapAt(p.g, 7), X: 0},
		{At: p.at(0, 0), X: firstWord(4, 2, 3)}, {At: p.at(0, 15), X: firstWord(2, 1, 2)}, {At: p.at(2, 0), X: firstWord(1, 3, 100)},
		{At: p.at(4, 31), X: firstWord(2, 1, 1)}, {At: p.at(5, 1), X: firstWord(2, 15, 15)},
	}
}

// sound is the scene mended.
func sound() picture {
	p := scene().with(sceneFixes()...)
	p.heads[6], p.heads[7] = free, free
	return p
}
