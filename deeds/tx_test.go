package deeds_test

import (
	"math"
	"slices"
	"testing"

	"trencher/api"
)

// OK is what a call answers that tells nothing else.
var ok = api.Answer{}

// pair is a world with two objects, a and b, of 40 words with 20 slots each, in the roots 0 and 1, and a small one, c, in the root 2.
func pair(t *testing.T) (w *world, a, b, c int) {
	w = fresh(t, most)
	a = w.do(malloc(root(0), 40, 20)).At
	b = w.do(malloc(root(1), 40, 20)).At
	c = w.do(malloc(root(2), 3, 1)).At
	w.stepwise = true
	return
}

// One edit, and 16; none, and 17.
func TestP19_1TxMany(t *testing.T) {
	w, a, b, _ := pair(t)
	w.gives(tx(), wrong(1))
	w.gives(api.Call{Kind: 8, Edits: []api.Edit{}}, wrong(1))
	for n := 1; n <= 20; n++ {
		var l []api.Edit
		for i := range n {
			l = append(l, writes([]int{a, b}[i%2], i, uint64(n*100+i)))
		}
		if n > 16 {
			w.gives(tx(l...), wrong(1))
			continue
		}
		w.gives(tx(l...), ok)
		for i := range n {
			w.gives(read([]int{a, b}[i%2], i), word(uint64(n*100+i)))
		}
	}
	w.gives(tx(make([]api.Edit, 17)...), wrong(1))
	w.gives(tx(make([]api.Edit, 1000)...), wrong(1))
	// What is wrong with edits isn't looked at, if there are too many.
	w.gives(tx(slices.Repeat([]api.Edit{writes(1, 1, 1)}, 17)...), wrong(1))
	w.gives(tx(slices.Repeat([]api.Edit{writes(1, 1, 1)}, 16)...), wrong(4))
}

// Just 16 words, and 17: of data, of pointers with what they point to, and of both.
func TestP19_1TxWords(t *testing.T) {
	w, a, b, c := pair(t)
	// Each pointer alone is a word, and c's first one.
	var l []api.Edit
	for i := range 15 {
		l = append(l, points(slot(a, i), c))
	}
	w.gives(tx(l...), ok)
	if w.refs(c) != 16 || len(w.plain.log) != 16 {
		t.Fatal(w.refs(c), len(w.plain.log))
	}
	w.gives(tx(append(l, writes(b, 0, 1))...), ok) // these are c's already
	if len(w.plain.log) != 1 {
		t.Fatal(w.plain.log)
	}
	for i := range 15 {
		l[i].Target = 0
	}
	w.gives(tx(append(l, writes(b, 0, 2))...), wrong(10)) // 17
	w.gives(tx(append(l, points(slot(b, 0), c))...), wrong(10))
	w.gives(tx(append(l, points(slot(b, 0), 0))...), ok)
	if w.refs(c) != 1 || len(w.plain.log) != 16 {
		t.Fatal(w.refs(c), len(w.plain.log))
	}
	// From c to b: the pointer, c's first word and b's.
	for i := range 15 {
		l[i].Target = c
	}
	w.gives(tx(l...), ok)
	for i := range 15 {
		l[i].Target = b
	}
	w.gives(tx(l...), wrong(10))
	w.gives(tx(l[:14]...), ok)
	if w.refs(c) != 2 || w.refs(b) != 15 || len(w.plain.log) != 16 {
		t.Fatal(w.refs(c), w.refs(b), len(w.plain.log))
	}
	w.gives(tx(l...), ok)
	// Sixteen data, one of which is edited twice, and a pointer that is set to what it is.
	l = nil
	for i := range 15 {
		l = append(l, writes(b, i, 7))
	}
	w.gives(tx(append(l, writes(b, 3, 8))...), ok)
	if len(w.plain.log) != 15 {
		t.Fatal(len(w.plain.log))
	}
	w.gives(tx(append(l, points(slot(a, 0), b))...), ok)
	w.gives(tx(append(l, points(slot(a, 0), 0))...), wrong(10))
	w.gives(tx(append(l[1:], points(slot(a, 0), 0))...), ok)
}

// A word that an edit makes another one counts, and is published, also if a later edit makes it what it was; so is a datum that is edited to what it was.
func TestP19_1TxBack(t *testing.T) {
	w, a, b, c := pair(t)
	d := slot(a, 3)
	w.gives(tx(points(d, c), points(d, 0)), ok)
	if len(w.plain.log) != 2 || w.refs(c) != 1 {
		t.Fatal(w.plain.log)
	}
	w.gives(tx(points(d, c), points(d, b), points(d, 0)), ok)
	if len(w.plain.log) != 3 || w.refs(c) != 1 || w.refs(b) != 1 {
		t.Fatal(w.plain.log)
	}
	w.gives(tx(writes(b, 0, 0)), ok)
	if len(w.plain.log) != 1 {
		t.Fatal(w.plain.log)
	}
	w.gives(tx(writes(b, 0, 5), writes(b, 0, 0)), ok)
	if len(w.plain.log) != 1 {
		t.Fatal(w.plain.log)
	}
	// With 15 data these two are one too many, and one is not.
	var l []api.Edit
	for i := range 14 {
		l = append(l, writes(a, i, 6))
	}
	w.gives(tx(append(l, points(d, c), points(d, 0))...), ok)
	if len(w.plain.log) != 16 {
		t.Fatal(w.plain.log)
	}
	w.gives(tx(append(l, points(d, c), points(slot(a, 4), b))...), wrong(10))
	w.gives(tx(append(l[:12:12], points(d, c), points(d, b), points(d, 0))...), ok)
	w.gives(tx(append(l[:13:13], points(d, c), points(d, b), points(d, 0))...), ok)
	w.gives(tx(append(l[:13:13], points(d, c), points(d, b), writes(b, 19, 1))...), wrong(10))
}

// Edits that write nothing: no log.
func TestP19_1TxNothing(t *testing.T) {
	w, a, b, c := pair(t)
	w.gives(tx(points(root(0), a)), ok)
	w.gives(tx(points(slot(a, 0), 0), points(root(2), c), points(root(5), 0)), ok)
	var l []api.Edit
	for i := range 16 {
		l = append(l, points(slot(b, i), 0))
	}
	w.gives(tx(l...), ok)
	if len(w.plain.log) != 0 {
		t.Fatal(w.plain.log)
	}
}

// An edit goes over what those ahead would have made: pointers, and how many point to an object.
func TestP19_1TxOver(t *testing.T) {
	w, a, b, c := pair(t)
	w.gives(tx(points(slot(a, 0), b), points(slot(a, 0), b), points(slot(a, 1), b), points(slot(a, 0), c)), ok)
	if w.refs(b) != 2 || w.refs(c) != 2 {
		t.Fatal(w.refs(b), w.refs(c))
	}
	w.gives(tx(writes(c, 0, 1), writes(c, 1, 2), writes(c, 0, 3)), ok)
	w.gives(read(c, 0), word(3))
	w.gives(read(c, 1), word(2))
	// As many as may be point to c, but for one.
	w.shared(c, 65534)
	w.gives(tx(points(slot(b, 0), c), points(slot(b, 1), c)), wrong(10))
	w.gives(tx(points(slot(b, 0), c)), ok)
	w.gives(tx(points(slot(b, 1), c)), wrong(10))
	w.gives(tx(points(slot(b, 0), 0), points(slot(b, 1), c)), ok)
	w.gives(tx(points(slot(b, 2), c), points(slot(b, 1), 0)), wrong(10))
	w.gives(tx(points(slot(b, 1), a), points(slot(b, 2), c), points(slot(b, 1), 0)), ok)
	w.gives(tx(points(slot(b, 2), c), points(slot(b, 2), c)), ok)
	// Both of a cycle at once, and what nothing pointed to any more is pointed to again.
	w.gives(tx(points(slot(a, 9), b), points(slot(b, 9), a), points(root(0), 0), points(root(1), 0)), ok)
	w.gives(tx(points(root(0), a), points(slot(b, 9), 0), points(root(1), b)), ok)
	w.gives(tx(points(root(0), 0), points(root(0), a)), ok)
	if w.refs(a) != 1 {
		t.Fatal(w.refs(a))
	}
}

// The first error of an edit is the call's, whatever the others are, and nothing is done.
func TestP19_1TxRefused(t *testing.T) {
	w, a, b, c := pair(t)
	w.shared(c, 65535)
	bad := []struct {
		e    api.Edit
		want api.Errno
	}{
		{points(root(8), 0), 3}, {points(root(-1), a), 3}, {points(slot(a, 20), b), 3}, {points(slot(a+1, 0), 0), 3}, {points(slot(0, 0), 0), 3},
		{points(slot(a, 0), 1), 4}, {points(root(3), a+1), 4}, {points(root(3), -1), 4}, {points(slot(a, 0), math.MinInt), 4},
		{points(slot(a, 0), c), 10}, {points(root(3), c), 10},
		{writes(a+1, 0, 1), 4}, {writes(0, 0, 1), 4}, {writes(a, -1, 1), 13}, {writes(a, 20, 1), 13}, {writes(a, 1<<32, 1), 13},
		{points(root(8), 1), 3}, {writes(a-1, 20, 1), 4},
	}
	for _, x := range bad {
		w.gives(tx(x.e), wrong(x.want))
		w.gives(tx(writes(a, 0, 5), points(slot(a, 0), b), x.e, points(slot(a, 1), b)), wrong(x.want))
		w.gives(tx(append(slices.Repeat([]api.Edit{writes(a, 0, 5)}, 15), x.e)...), wrong(x.want))
		for _, y := range bad {
			w.gives(tx(x.e, y.e), wrong(x.want))
		}
		// It comes ahead of how many words they would write.
		var l []api.Edit
		for i := range 15 {
			l = append(l, points(slot(a, i), []int{a, b}[i%2]))
		}
		w.gives(tx(l...), wrong(10))
		w.gives(tx(append(l, x.e)...), wrong(x.want))
		w.gives(read(a, 0), word(0))
		w.gives(get(slot(a, 0)), told(0))
	}
}

// A data edit of an object, beside pointers of the same one, and of objects of all classes in one batch.
func TestP19_1TxClasses(t *testing.T) {
	w := fresh(t, most)
	var l []int
	for i, n := range []int{2, 5, 9, 17, 200} {
		l = append(l, w.do(malloc(root(i), n, 1)).At)
	}
	w.stepwise = true
	var edits []api.Edit
	for i, at := range l {
		edits = append(edits, points(slot(at, 0), l[(i+1)%5]), writes(at, 0, uint64(i)+1))
	}
	w.gives(by(3, tx(edits...)), ok)
	for i, at := range l {
		w.gives(get(slot(at, 0)), told(l[(i+1)%5]))
		w.gives(read(at, 0), word(uint64(i)+1))
		if w.refs(at) != 2 {
			t.Fatal(i, w.refs(at))
		}
	}
}
