package graph_test

import (
	"runtime/debug"
	"slices"
	"testing"

	"trencher/api"
	"trencher/graph"
)

// No roots, no nodes, and pointers to nothing, or to addresses that no node has.
func TestP22_2Nothing(t *testing.T) {
	for _, g := range []api.Graph{{}, {Roots: []int{}, Nodes: []api.Node{}}} {
		shaped(t, g, 0, 0)
		tells(t, g, nil, 0, false)
	}
	shaped(t, of(to(0)), 1, 0, 0)
	shaped(t, of(to(0, 5, 0)), 3, 0, 0, 0, 0)
	tells(t, of(to(0, 5, 0)), nil, 0, false)
	shaped(t, of(nil, node(5, 5)), 0, 0)
	tells(t, of(nil, node(5, 5)), nil, 0, true)
	shaped(t, of(to(0, 6), node(5, 5)), 2, 0, 0, 0)
	tells(t, of(to(0, 6), node(5)), nil, 0, false)
	shaped(t, of(to(5), node(5)), 1, 1, 1, 0, 0, 0, 0)
	tells(t, of(to(5), node(5)), to(5), 1, false)
	shaped(t, of(to(5), node(5, 0, 6, 5)), 1, 1, 1, 0, 0, 3, 0, 0, 1, 0)
	tells(t, of(to(5), node(5, 0, 6, 7)), to(5), 1, false)
	for _, at := range far() {
		shaped(t, of(to(at), node(5)), 1, 0, 0)
		shaped(t, of(to(5), node(5, at)), 1, 1, 1, 0, 0, 1, 0, 0)
		tells(t, of(to(at, 5), node(5, at, -at-1)), to(5), 1, false)
	}
}

// Walks in depth, written out.
func TestP22_2Walks(t *testing.T) {
	// What an object's first slot leads to comes wholly ahead of what its second one does.
	tells(t, of(to(1), node(1, 2, 5), node(2, 3, 4), node(3), node(4), node(5, 6), node(6)), to(1, 2, 3, 4, 5, 6), 3, false)
	// So with roots.
	tells(t, of(to(5, 1), node(1, 2), node(2), node(5, 6), node(6, 2)), to(5, 6, 2, 1), 3-1, false)
	// What was come to isn't come to again.
	tells(t, of(to(1, 1, 2), node(1, 2, 3, 2), node(2, 3), node(3, 1)), to(1, 2, 3), 2, true)
	// What is come to by a long way counts there, though a short one would lead to it, too.
	tells(t, of(to(1), node(1, 2, 4), node(2, 3), node(3, 4), node(4, 5), node(5)), to(1, 2, 3, 4, 5), 3, false)
	tells(t, of(to(1), node(1, 4, 2), node(2, 3), node(3, 4), node(4, 5), node(5)), to(1, 4, 5, 2, 3), 3, false)
	// What nothing leads to isn't come to.
	tells(t, of(to(3), node(1, 3), node(2, 1), node(3)), to(3), 1, false)
	// The nodes' order makes no difference.
	tells(t, of(to(3, 9, 1), node(9, 2), node(3, 9), node(2), node(1)), to(3, 9, 2, 1), 2, false)
}

// A node may have any address, also 0: what points to 0 points to it then, and to nothing without it.
func TestP22_2Zero(t *testing.T) {
	tells(t, of(to(0), node(0)), to(0), 1, false)
	shaped(t, of(to(0), node(0)), 1, 1, 1, 0, 0, 0, 0)
	tells(t, of(to(0, 1), node(0, 0), node(1, 0)), to(0, 1), 1, true)
	tells(t, of(to(1, 0), node(0), node(1, 7, 0)), to(1, 0), 1, false)
	tells(t, of(to(1), node(0), node(1, 7, 0)), to(1, 0), 2, false)
	shaped(t, of(to(1), node(0), node(1, 7, 0)), 1, 1, 2, 0, 0, 2, 0, 2, 0, 0, 0, 0, 0)
	tells(t, of(to(1), node(1, 7, 0)), to(1), 1, false)
	tells(t, of(to(1), node(0, 2), node(1, 0), node(2, 0)), to(1, 0, 2), 3, true)
	tells(t, of(to(1), node(0, 2), node(1, 0), node(2, 1)), to(1, 0, 2), 3, true)
	tells(t, of(to(1), node(0, 2), node(1, 2), node(2, 3)), to(1, 2), 2, false)
	for _, at := range far() {
		tells(t, of(to(0, at), node(at, 0, at)), to(at), 1, true)
		shaped(t, of(to(0, at), node(at, 0, at)), 2, 0, 1, 1, 0, 0, 2, 0, 1, 0)
		tells(t, of(to(at), node(at, 5), node(5, 0), node(0)), to(at, 5, 0), 3, false)
	}
}

// Of several nodes of one address the first one counts, as if the others weren't there.
func TestP22_2Several(t *testing.T) {
	first := api.Node{At: 5, Object: api.Object{Refs: 2, Slots: 1, Words: 2}, Slots: to(6), Data: []uint64{9}}
	other := api.Node{At: 5, Object: api.Object{Refs: 3, Slots: 2, Words: 4}, Slots: to(7, 5), Data: []uint64{8, 8}}
	six, seven := node(6), node(7, 6)
	for _, nodes := range [][]api.Node{{first, other, six, seven}, {six, first, seven, other, other}, {seven, six, first, other}, {first, six, seven, other, first}} {
		g := of(to(5), nodes...)
		shaped(t, g, 1, 1, 2, 2, 2, 1, 2, 1, 9, 0, 0, 0, 0)
		tells(t, g, to(5, 6), 2, false)
		alike(t, nodes, g, of(to(5), first, six, seven), true)
	}
	for _, nodes := range [][]api.Node{{other, first, six, seven}, {six, seven, other, first}} {
		g := of(to(5), nodes...)
		shaped(t, g, 1, 1, 3, 3, 4, 2, 2, 1, 2, 8, 8, 0, 0, 1, 3, 0, 0, 0, 0, 0)
		tells(t, g, to(5, 7, 6), 3, true)
		alike(t, nodes, g, of(to(5), first, six, seven), false)
	}
	tells(t, of(to(0), node(0), node(0, 0)), to(0), 1, false)
	tells(t, of(to(0), node(0, 0), node(0)), to(0), 1, true)
	tells(t, of(to(1), node(1, 2), node(2), node(2, 1), node(1, 1)), to(1, 2), 2, false)
}

// Objects with no slots, with no data, with neither; and such as don't say what they are.
func TestP22_2Parts(t *testing.T) {
	o := api.Object{Refs: 1, Slots: 2, Words: 5}
	shaped(t, of(to(3), api.Node{At: 3, Object: o, Data: []uint64{4, 0, 6}}), 1, 1, 1, 1, 5, 0, 3, 4, 0, 6)
	shaped(t, of(to(3), api.Node{At: 3, Object: o, Slots: to(0, 3)}), 1, 1, 1, 1, 5, 2, 0, 1, 0)
	shaped(t, of(to(3), api.Node{At: 3, Object: o, Slots: to(0, 3), Data: []uint64{3}}), 1, 1, 1, 1, 5, 2, 0, 1, 1, 3)
	shaped(t, of(to(3), api.Node{At: 3, Object: o}), 1, 1, 1, 1, 5, 0, 0)
	shaped(t, of(to(3), api.Node{At: 3, Object: o, Slots: []int{}, Data: []uint64{}}), 1, 1, 1, 1, 5, 0, 0)
	shaped(t, of(to(3, 3), api.Node{At: 3, Object: api.Object{Refs: -1, Slots: 9, Words: -2}, Data: []uint64{1 << 63}}), 2, 1, 1, 1, 1<<64-1, 1<<64-2, 0, 1, 1<<63)
	// Refs are as the nodes say, whatever points to them.
	alike(t, "refs", of(to(3), api.Node{At: 3, Object: api.Object{Refs: 7}}), of(to(3), api.Node{At: 3}), false)
	alike(t, "empty", of(to(3), api.Node{At: 3, Slots: []int{}, Data: []uint64{}}), of(to(3), api.Node{At: 3}), true)
}

// base is a graph of which the tests turn one number of the shape, with some that its shape doesn't tell.
func base() api.Graph {
	return api.Graph{Roots: to(20, 0, 10, 99), Nodes: []api.Node{
		{At: 10, Object: api.Object{Refs: 2, Slots: 2, Words: 4}, Slots: to(20, 10), Data: []uint64{5, 6}},
		{At: 20, Object: api.Object{Refs: 2, Slots: 3, Words: 3}, Slots: to(30, 0, 10), Data: nil},
		{At: 30, Object: api.Object{Refs: 1, Slots: 0, Words: 1}, Slots: nil, Data: []uint64{0}},
		{At: 40, Object: api.Object{Refs: 1, Slots: 1, Words: 2}, Slots: to(40), Data: []uint64{7}},
	}}
}

// Graphs that differ in just one number of a shape aren't alike, and have other shapes.
func TestP22_2OneNumber(t *testing.T) {
	turns := map[string]func(g *api.Graph){
		"a root more":           func(g *api.Graph) { g.Roots = append(g.Roots, 0) },
		"a root less":           func(g *api.Graph) { g.Roots = g.Roots[:3] },
		"a root to another":     func(g *api.Graph) { g.Roots[2] = 20 },
		"a root to nothing":     func(g *api.Graph) { g.Roots[2] = 0 },
		"a root to something":   func(g *api.Graph) { g.Roots[1] = 30 },
		"a root to no node":     func(g *api.Graph) { g.Roots[2] = 98 },
		"an object more":        func(g *api.Graph) { g.Roots[3] = 40 },
		"an object less":        func(g *api.Graph) { g.Nodes = append(g.Nodes[:2], g.Nodes[3]) },
		"refs":                  func(g *api.Graph) { g.Nodes[0].Object.Refs++ },
		"refs of the last":      func(g *api.Graph) { g.Nodes[2].Object.Refs = 0 },
		"words":                 func(g *api.Graph) { g.Nodes[1].Object.Words++ },
		"words of the last":     func(g *api.Graph) { g.Nodes[2].Object.Words = 2 },
		"a slot more":           func(g *api.Graph) { g.Nodes[2].Slots = to(0) },
		"a slot less":           func(g *api.Graph) { g.Nodes[0].Slots = to(20) },
		"a slot to another":     func(g *api.Graph) { g.Nodes[0].Slots[1] = 20 },
		"a slot to nothing":     func(g *api.Graph) { g.Nodes[0].Slots[1] = 0 },
		"a slot to itself":      func(g *api.Graph) { g.Nodes[1].Slots[1] = 20 },
		"slots in another turn": func(g *api.Graph) { g.Nodes[0].Slots = to(10, 20) },
		"a datum more":          func(g *api.Graph) { g.Nodes[1].Data = []uint64{0} },
		"a datum less":          func(g *api.Graph) { g.Nodes[0].Data = []uint64{5} },
		"no data":               func(g *api.Graph) { g.Nodes[2].Data = nil },
		"a datum":               func(g *api.Graph) { g.Nodes[0].Data[1] = 7 },
		"a datum's highest bit": func(g *api.Graph) { g.Nodes[2].Data[0] = 1 << 63 },
		"data in another turn":  func(g *api.Graph) { g.Nodes[0].Data = []uint64{6, 5} },
	}
	was := base()
	shaped(t, was, 4, 1, 0, 3, 0, 3, 2, 3, 3, 2, 0, 3, 0, 1, 1, 0, 1, 0, 2, 4, 2, 1, 3, 2, 5, 6)
	graphs := map[string]api.Graph{"as it was": was}
	for what, turn := range turns {
		g := base()
		turn(&g)
		graphs[what] = g
		agrees(t, what, g)
	}
	// What no root leads to, and where pointers lead that lead to nothing, makes none.
	for what, turn := range map[string]func(g *api.Graph){
		"unreached":   func(g *api.Graph) { g.Nodes[3] = node(40, 10, 20, 30) },
		"less":        func(g *api.Graph) { g.Nodes = g.Nodes[:3] },
		"more":        func(g *api.Graph) { g.Nodes = append(g.Nodes, node(50, 60), node(60, 50)) },
		"elsewhere":   func(g *api.Graph) { g.Roots[1], g.Roots[3], g.Nodes[1].Slots[1] = 77, -1, 98 },
		"their count": func(g *api.Graph) { g.Nodes[0].Object.Slots = 7 },
	} {
		g := base()
		turn(&g)
		alike(t, what, g, was, true)
	}
	// A root to no node is one to nothing; all others differ.
	alike(t, "no node", graphs["a root to no node"], graphs["a root to nothing"], true)
	delete(graphs, "a root to no node")
	for what, g := range graphs {
		for other, h := range graphs {
			alike(t, what+" and "+other, g, h, what == other)
		}
	}
}

// A way may be of any length, without more stack for it; what is come to has its order, wherever it is cut.
func TestP22_2Long(t *testing.T) {
	defer debug.SetMaxStack(debug.SetMaxStack(2 << 20))
	for _, n := range to(1, 2, 50, 998, 999, 1000, 1001, 1002, 1999, 2000, 2001, 2002, 3003, 30000) {
		for what, slots := range map[string]func(i int) []int{
			"chain":         func(i int) []int { return to(i + 1) },
			"back":          func(i int) []int { return to(i-1, i+1, i-2) },
			"leaves ahead":  func(i int) []int { return to(-i, i+1) },
			"leaves behind": func(i int) []int { return to(i+1, -i, 1-i) },
			"ladder":        func(i int) []int { return to(i+1, i+2, -i/2, i+3) },
			"ring":          func(i int) []int { return to(i%n+1, -i) },
		} {
			g := of(to(0, 1, n))
			for i := 1; i <= n; i++ {
				g.Nodes = append(g.Nodes, node(i, slots(i)...), node(-i))
			}
			if got, want := graph.Walk(g), longWalk(g); !slices.Equal(got, want) || len(got) < n {
				t.Fatalf("%s of %d: %d come to", what, n, len(got))
			}
			if loops, want := graph.Loops(g), what == "ring" || what == "back" && n > 1; loops != want {
				t.Fatalf("%s of %d: %v", what, n, loops)
			}
			if !graph.Alike(g, copied(g)) {
				t.Fatalf("%s of %d: not alike itself", what, n)
			}
		}
	}
}

// longWalk is a walk of a graph of any depth, by a list of the pointers that are still to be gone along.
func longWalk(g api.Graph) []int {
	slots := map[int][]int{}
	for _, n := range g.Nodes {
		slots[n.At] = n.Slots
	}
	var order []int
	todo := slices.Clone(g.Roots)
	slices.Reverse(todo)
	for len(todo) > 0 {
		at := todo[len(todo)-1]
		todo = todo[:len(todo)-1]
		l, ahead := slots[at]
		if !ahead {
			continue
		}
		delete(slots, at)
		order = append(order, at)
		for _, next := range slices.Backward(l) {
			todo = append(todo, next)
		}
	}
	return order
}

// Great graphs by chance, in which ways are long and cut in many places.
func TestP22_2Great(t *testing.T) {
	defer debug.SetMaxStack(debug.SetMaxStack(2 << 20))
	for seed := range 12 {
		next := chance(seed)
		n := 3000 + next(20000)
		g := of(to(next(n), next(n), next(n)))
		for at := range n {
			var slots []int
			for range next(4) {
				slots = append(slots, next(n))
			}
			// Some lead on a long way, in some turn.
			slots = slices.Insert(slots, next(len(slots)+1), at+1)
			g.Nodes = append(g.Nodes, node(at, slots...))
		}
		if got, want := graph.Walk(g), longWalk(g); !slices.Equal(got, want) || len(got) < 1000 {
			t.Fatalf("%d: %d of %d come to", seed, len(got), n)
		}
	}
}
