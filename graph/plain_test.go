package graph_test

import (
	"maps"
	"math"
	"slices"
	"testing"

	"trencher/api"
	"trencher/graph"
)

// What the tests hold the package against: counts that are worked out the long way, by lists and tables of all nodes.

// far are addresses that look like none: below 0, and very great.
func far() []int {
	return []int{-1, -64, math.MinInt, math.MinInt + 1, -1 << 32, 1 << 32, 1<<32 + 64, math.MaxInt32, math.MinInt32, math.MaxInt - 1, math.MaxInt}
}

// chance makes what tells numbers below one that look as if they were by chance, the same each time.
func chance(seed int) func(below int) int {
	x := 0x2545f4914f6cdd1d + uint64(seed)*0x9e3779b97f4a7c15
	return func(below int) int {
		x = x*6364136223846793005 + 1442695040888963407
		return int((x ^ x>>31) >> 8 % uint64(below))
	}
}

// node is a node that has these slots, and nothing else.
func node(at int, slots ...int) api.Node { return api.Node{At: at, Slots: slots} }

// of is a graph of these nodes.
func of(roots []int, nodes ...api.Node) api.Graph { return api.Graph{Roots: roots, Nodes: nodes} }

// to is a list of pointers.
func to(pointers ...int) []int { return pointers }

// copied is a graph that is the same, and shares nothing with it.
func copied(g api.Graph) api.Graph {
	c := api.Graph{Roots: slices.Clone(g.Roots), Nodes: slices.Clone(g.Nodes)}
	for i, n := range g.Nodes {
		c.Nodes[i].Slots, c.Nodes[i].Data = slices.Clone(n.Slots), slices.Clone(n.Data)
	}
	return c
}

// sameNode tells whether two nodes are the same.
func sameNode(a, b api.Node) bool {
	return a.At == b.At && a.Object == b.Object && slices.Equal(a.Slots, b.Slots) && slices.Equal(a.Data, b.Data)
}

// same tells whether two graphs are the same, to the letter.
func same(a, b api.Graph) bool {
	return slices.Equal(a.Roots, b.Roots) && slices.EqualFunc(a.Nodes, b.Nodes, sameNode)
}

// find is which of a graph's nodes counts for an address; -1, if none has it.
func find(g api.Graph, at int) int {
	return slices.IndexFunc(g.Nodes, func(n api.Node) bool { return n.At == at })
}

// plainWalk is a walk, as the chapter has it.
func plainWalk(g api.Graph) []int {
	var order []int
	var come func(at int)
	come = func(at int) {
		i := find(g, at)
		if i < 0 || slices.Contains(order, at) {
			return
		}
		order = append(order, at)
		for _, next := range g.Nodes[i].Slots {
			come(next)
		}
	}
	for _, at := range g.Roots {
		come(at)
	}
	return order
}

// plainShape is a shape, number by number, along a walk.
func plainShape(g api.Graph) []uint64 {
	order := plainWalk(g)
	shape := []uint64{uint64(len(g.Roots))}
	for _, at := range g.Roots {
		shape = append(shape, uint64(slices.Index(order, at)+1))
	}
	shape = append(shape, uint64(len(order)))
	for _, at := range order {
		n := g.Nodes[find(g, at)]
		shape = append(shape, uint64(n.Object.Refs), uint64(n.Object.Words), uint64(len(n.Slots)))
		for _, next := range n.Slots {
			shape = append(shape, uint64(slices.Index(order, next)+1))
		}
		shape = append(shape, uint64(len(n.Data)))
		shape = append(shape, n.Data...)
	}
	return shape
}

// plainDepth is the depth: in each turn what is one farther is come to, till nothing is.
func plainDepth(g api.Graph) int {
	there := map[int]bool{}
	next := g.Roots
	for depth := 0; ; depth++ {
		was := len(there)
		for _, at := range next {
			if find(g, at) >= 0 {
				there[at] = true
			}
		}
		if len(there) == was {
			return depth
		}
		next = nil
		for at := range there {
			next = append(next, g.Nodes[find(g, at)].Slots...)
		}
	}
}

// plainLoops tells whether there is a loop, by a table of which node leads to which.
func plainLoops(g api.Graph) bool {
	n := len(g.Nodes)
	leads := make([][]bool, n)
	for i, x := range g.Nodes {
		leads[i] = make([]bool, n)
		for _, next := range x.Slots {
			// A node that doesn't count leads nowhere.
			if k := find(g, next); k >= 0 && find(g, x.At) == i {
				leads[i][k] = true
			}
		}
	}
	for k := range n {
		for i := range n {
			for j := range n {
				if !leads[i][k] {
					break
				}
				leads[i][j] = leads[i][j] || leads[k][j]
			}
		}
	}
	for i := range n {
		if leads[i][i] {
			return true
		}
	}
	return false
}

// agrees checks that all calls tell of a graph what is worked out the long way, and leave it as it was.
func agrees(t *testing.T, what any, g api.Graph) {
	t.Helper()
	was := copied(g)
	if got, want := graph.Walk(g), plainWalk(was); !slices.Equal(got, want) {
		t.Fatalf("%v: %+v: walk %v, not %v", what, g, got, want)
	}
	if got, want := graph.Shape(g), plainShape(was); !slices.Equal(got, want) {
		t.Fatalf("%v: %+v: shape %v, not %v", what, g, got, want)
	}
	if got, want := graph.Depth(g), plainDepth(was); got != want {
		t.Fatalf("%v: %+v: depth %d, not %d", what, g, got, want)
	}
	if got, want := graph.Loops(g), plainLoops(was); got != want {
		t.Fatalf("%v: %+v: loops %v, not %v", what, g, got, want)
	}
	if !graph.Alike(g, was) {
		t.Fatalf("%v: %+v: not alike itself", what, g)
	}
	if !same(g, was) {
		t.Fatalf("%v: %+v was %+v", what, g, was)
	}
}

// tells checks what the calls tell of a graph, as it is written out.
func tells(t *testing.T, g api.Graph, walk []int, depth int, loops bool) {
	t.Helper()
	if got := graph.Walk(g); !slices.Equal(got, walk) {
		t.Fatalf("%+v: walk %v, not %v", g, got, walk)
	}
	if got := graph.Depth(g); got != depth {
		t.Fatalf("%+v: depth %d, not %d", g, got, depth)
	}
	if got := graph.Loops(g); got != loops {
		t.Fatalf("%+v: loops %v, not %v", g, got, loops)
	}
	agrees(t, "plainly", g)
}

// shaped checks the shape of a graph, as it is written out.
func shaped(t *testing.T, g api.Graph, want ...uint64) {
	t.Helper()
	if got := graph.Shape(g); !slices.Equal(got, want) {
		t.Fatalf("%+v: shape %v, not %v", g, got, want)
	}
	agrees(t, "shape", g)
}

// alike checks whether two graphs are, whichever is named first.
func alike(t *testing.T, what any, a, b api.Graph, want bool) {
	t.Helper()
	if graph.Alike(a, b) != want || graph.Alike(b, a) != want {
		t.Fatalf("%v: %+v and %+v alike: %v, %v, not %v", what, a, b, graph.Alike(a, b), graph.Alike(b, a), want)
	}
}

// thing is an object of the plain model: what its slots point to, its data.
type thing struct {
	slots []int
	data  []uint64
}

// plain is what a pool should have: its roots, and its objects, reached or not.
type plain struct {
	roots  []int
	things map[int]*thing
}

// blank is what there is at first.
func blank(g api.Geometry) *plain {
	return &plain{make([]int, g.Roots), map[int]*thing{}}
}

// pointers is the list that a destination is of.
func (p *plain) pointers(d api.Dest) []int {
	if d.Root {
		return p.roots
	}
	return p.things[d.Object].slots
}

// reached are the objects that roots lead to.
func (p *plain) reached() map[int]bool {
	there := map[int]bool{}
	todo := slices.Clone(p.roots)
	for len(todo) > 0 {
		at := todo[0]
		todo = todo[1:]
		if x := p.things[at]; x != nil && !there[at] {
			there[at] = true
			todo = append(todo, x.slots...)
		}
	}
	return there
}

// graph is the graph that there should be.
func (p *plain) graph() api.Graph {
	there := p.reached()
	refs := map[int]int{}
	for _, at := range p.roots {
		refs[at]++
	}
	for from := range there {
		for _, at := range p.things[from].slots {
			refs[at]++
		}
	}
	g := api.Graph{Roots: slices.Clone(p.roots)}
	for _, at := range slices.Sorted(maps.Keys(there)) {
		x := p.things[at]
		o := api.Object{Refs: refs[at], Slots: len(x.slots), Words: len(x.slots) + len(x.data)}
		g.Nodes = append(g.Nodes, api.Node{At: at, Object: o, Slots: slices.Clone(x.slots), Data: slices.Clone(x.data)})
	}
	return g
}

// opened forgets what isn't reached.
func (p *plain) opened() {
	there := p.reached()
	maps.DeleteFunc(p.things, func(at int, _ *thing) bool { return !there[at] })
}
