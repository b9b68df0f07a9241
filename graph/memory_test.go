package graph_test

import (
	"slices"
	"testing"

	"trencher/api"
	"trencher/graph"
)

// spare is a graph each of whose lists has spare room behind it, with something in it; and what checks that all of it is as it was.
func spare(t *testing.T, g api.Graph) (api.Graph, func()) {
	g = copied(g)
	numbers := func(l []int) []int { return append(slices.Clone(l), 71, 72, 73, 74)[:len(l)] }
	g.Roots = numbers(g.Roots)
	g.Nodes = append(g.Nodes, node(75), node(76, 75))[:len(g.Nodes)]
	for i, n := range g.Nodes {
		g.Nodes[i].Slots = numbers(n.Slots)
		g.Nodes[i].Data = append(slices.Clone(n.Data), 77, 78, 79)[:len(n.Data)]
	}
	was := copied(g)
	return g, func() {
		t.Helper()
		right := same(g, was) && same(of(nil, g.Nodes[:len(g.Nodes)+2]...), of(nil, append(was.Nodes, node(75), node(76, 75))...))
		for _, l := range append([][]int{g.Roots}, slotsOf(g)...) {
			right = right && slices.Equal(l[len(l):len(l)+4], to(71, 72, 73, 74))
		}
		for _, n := range g.Nodes {
			right = right && slices.Equal(n.Data[len(n.Data):len(n.Data)+3], []uint64{77, 78, 79})
		}
		if !right {
			t.Fatalf("%+v was %+v", g, was)
		}
	}
}

// slotsOf has the lists of slots of all nodes.
func slotsOf(g api.Graph) [][]int {
	var l [][]int
	for _, n := range g.Nodes {
		l = append(l, n.Slots)
	}
	return l
}

// No call turns a graph that is handed in, nor what is in its lists' spare room.
func TestP22_2Unturned(t *testing.T) {
	graphs := []api.Graph{{}, of(to(0)), base(), of(to(1, 2), node(1, 2, 1), node(2), node(1)), of(nil, node(1, 1))}
	for n := range 60 {
		g := of(to(1))
		for i := range n {
			g.Nodes = append(g.Nodes, node(i+1, i+2, n-i, i/2))
		}
		graphs = append(graphs, g)
	}
	for _, g := range graphs {
		g, check := spare(t, g)
		graph.Walk(g)
		check()
		graph.Shape(g)
		check()
		graph.Depth(g)
		check()
		graph.Loops(g)
		check()
		other, too := spare(t, base())
		graph.Alike(g, other)
		check()
		too()
		graph.Alike(other, g)
		graph.Alike(g, g)
		check()
		too()
	}
}

// scene is a trial with some objects of all kinds.
func scene(t *testing.T) *trial {
	t.Helper()
	m := &maker{formatted(t, middle), chance(4)}
	for len(m.tr.plain.reached()) < 12 {
		m.call()
	}
	at := m.tr.makes(slot(m.tr.makes(slot(m.tr.emptied(), 0), 15, 4), 3), 9, 2)
	m.tr.write(at, 5, 99)
	return m.tr
}

// emptied is an object with two slots that point to nothing, made anew behind root 0.
func (tr *trial) emptied() int {
	tr.t.Helper()
	tr.point(root(0), 0)
	return tr.makes(root(0), 5, 2)
}

// Words that are handed in stay as they are, with their spare room; a graph that was taken from them stays as it is, whatever becomes of them, and they do, whatever becomes of it.
func TestP22_1Unshared(t *testing.T) {
	tr := scene(t)
	seen := tr.words()
	words := append(slices.Clone(seen), 5, 6, 7)[:len(seen)]
	g, _ := graph.Of(words)
	was, other := copied(g), tr.right("once more")
	for i := range words {
		words[i] = ^words[i]
	}
	if !same(g, was) {
		t.Fatalf("%+v was %+v", g, was)
	}
	for i := range words {
		words[i] = ^words[i]
	}
	spoil(g)
	if !slices.Equal(words, seen) || !slices.Equal(words[len(words):len(words)+3], []uint64{5, 6, 7}) {
		t.Fatal("the graph shares its words' memory")
	}
	if again, _ := graph.Of(words); !same(other, was) || !same(again, was) {
		t.Fatal("two graphs share memory")
	}
}

// spoil turns all that a graph has.
func spoil(g api.Graph) {
	for i := range g.Roots {
		g.Roots[i] = -5
	}
	for i, n := range g.Nodes {
		for k := range n.Slots {
			n.Slots[k] = -6
		}
		for k := range n.Data {
			n.Data[k] = 7
		}
		g.Nodes[i].At = -8
	}
}

// No two lists of a graph share memory, nor what is behind them.
func TestP22_1Apart(t *testing.T) {
	g := scene(t).right("apart")
	was := copied(g)
	behind := func(l []int) {
		for i := range l[len(l):cap(l)] {
			l[len(l):cap(l)][i] = -9
		}
	}
	behind(g.Roots)
	for _, n := range g.Nodes {
		behind(n.Slots)
		for i := range n.Data[len(n.Data):cap(n.Data)] {
			n.Data[len(n.Data):cap(n.Data)][i] = 9
		}
	}
	for i := range g.Nodes[len(g.Nodes):cap(g.Nodes)] {
		g.Nodes[len(g.Nodes):cap(g.Nodes)][i].At = -9
	}
	if !same(g, was) {
		t.Fatalf("%+v was %+v", g, was)
	}
	for i := range g.Nodes {
		one := copied(was)
		spoil(of(nil, one.Nodes[i]))
		spoil(of(nil, g.Nodes[i]))
		g.Nodes[i].At = was.Nodes[i].At
		for k, n := range g.Nodes {
			if k > i && !sameNode(n, was.Nodes[k]) {
				t.Fatalf("%+v was %+v", n, was.Nodes[k])
			}
		}
	}
	if !slices.Equal(g.Roots, was.Roots) {
		t.Fatalf("%v was %v", g.Roots, was.Roots)
	}
}

// Walks and shapes are new memory: what becomes of one makes no difference to a graph, nor to another one.
func TestP22_2Unshared(t *testing.T) {
	for _, g := range []api.Graph{base(), scene(t).right("unshared"), of(to(1), node(1))} {
		was := copied(g)
		walk, shape := graph.Walk(g), graph.Shape(g)
		walks, shapes := graph.Walk(g), graph.Shape(g)
		for i := range walk {
			walk[i] = -1
		}
		for i := range shape {
			shape[i] = 1 << 60
		}
		if !same(g, was) || !slices.Equal(walks, plainWalk(was)) || !slices.Equal(shapes, plainShape(was)) {
			t.Fatalf("%+v was %+v", g, was)
		}
	}
}

// The same graph tells the same, however often, and whatever was asked between.
func TestP22_4Same(t *testing.T) {
	g, other := scene(t).right("same"), base()
	walk, shape, depth, loops := graph.Walk(g), graph.Shape(g), graph.Depth(g), graph.Loops(g)
	for range 100 {
		graph.Walk(other)
		graph.Shape(other)
		if !slices.Equal(graph.Walk(g), walk) || !slices.Equal(graph.Shape(g), shape) || graph.Depth(g) != depth || graph.Loops(g) != loops || !graph.Alike(g, g) || graph.Alike(g, other) {
			t.Fatal("another answer")
		}
	}
}
