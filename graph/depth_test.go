package graph_test

import (
	"slices"
	"testing"

	"trencher/api"
	"trencher/graph"
)

// Each object is as deep as the nearest way from any root has it, whichever way a walk comes to it.
func TestP22_3Depth(t *testing.T) {
	for want, l := range [][]api.Graph{
		{of(nil), of(to(0)), of(to(3, 4)), of(nil, node(1), node(2, 1)), of(to(9, 0), node(1, 2), node(2))},
		{
			of(to(1), node(1)), of(to(1, 1), node(1, 1)), of(to(1, 2), node(1, 2), node(2, 1)),
			of(to(1), node(1, 0, 9), node(2, 3), node(3)), of(to(0, 1), node(1, 0), node(0, 1)),
		},
		{
			// A far way and a near one, whichever slot, or root, comes first.
			of(to(1), node(1, 2, 3), node(2, 3), node(3)), of(to(1), node(1, 3, 2), node(2, 3), node(3)),
			of(to(1, 2), node(1, 2), node(2, 3), node(3)), of(to(2, 1), node(1, 2), node(2, 3), node(3)),
			of(to(1), node(1, 0), node(0)), of(to(1), node(1, 2), node(2, 1)),
			of(to(1, 3), node(1, 2), node(2, 3), node(3, 4), node(4)),
		},
		{
			of(to(1), node(1, 2), node(2, 3), node(3)), of(to(1), node(1, 2, 4), node(2, 3), node(3, 4), node(4, 5), node(5)),
			of(to(1), node(1, 4, 2), node(2, 3), node(3, 4), node(4, 5), node(5)),
			of(to(1, 4), node(1, 2), node(2, 3), node(3, 4), node(4)), of(to(4, 1), node(1, 2), node(2, 3), node(3, 4), node(4, 1)),
			// What is in no way there doesn't count.
			of(to(1), node(1, 2), node(2, 3, 9), node(3, 1), node(4, 5), node(5, 6), node(6, 7), node(7)),
		},
		{of(to(1), node(1, 2), node(2, 3), node(3, 4), node(4)), of(to(1), node(4, 1), node(3, 4), node(2, 3), node(1, 2))},
	} {
		for _, g := range l {
			if got := graph.Depth(g); got != want {
				t.Errorf("%+v: depth %d, not %d", g, got, want)
			}
			agrees(t, "depth", g)
		}
	}
}

// Chains, also with ways back and ways that skip some.
func TestP22_3Ways(t *testing.T) {
	var order []int
	for n := 1; n < 70; n++ {
		order = append(order, n)
		chain, back, skip := of(to(1)), of(to(1)), of(to(1))
		for _, i := range order {
			chain.Nodes = append(chain.Nodes, node(i, i+1))
			back.Nodes = append(back.Nodes, node(i, i-1, i-2, i+1))
			skip.Nodes = append(skip.Nodes, node(i, i+1, i+2, i+3))
		}
		tells(t, chain, order, n, false)
		tells(t, back, order, n, n > 1)
		tells(t, skip, order, 1+(n+1)/3, false)
		// A root to each end.
		chain.Roots = to(n, 1)
		tells(t, chain, append(to(n), order[:n-1]...), max(1, n-1), false)
		// A root to each third one.
		for i := 4; i <= n; i += 3 {
			back.Roots = append(back.Roots, i)
		}
		tells(t, back, order, min(n, []int{3, 2, 2}[n%3]), n > 1)
	}
}

// Loops are there or not, wherever roots lead: of one object, of several, and behind others.
func TestP22_3Loops(t *testing.T) {
	loops := [][]api.Node{
		{node(1, 1)}, {node(1, 0, 1)}, {node(1, 2), node(2, 1)}, {node(1, 2), node(2, 3), node(3, 1)},
		{node(1, 2), node(2, 2)}, {node(1, 2), node(2, 3), node(3, 2)}, {node(1, 2, 3), node(2), node(3, 4, 2), node(4, 5), node(5, 2, 3)},
		{node(1), node(2, 2)}, {node(1, 3), node(2, 1, 2), node(3)}, {node(0, 0), node(1)}, {node(0, 1), node(1, 2, 0)},
	}
	none := [][]api.Node{
		{}, {node(1)}, {node(1, 0)}, {node(1, 2)}, {node(1, 2), node(2)}, {node(1, 2, 2, 2), node(2, 0, 3)}, {node(1, 2, 3), node(2, 4), node(3, 4), node(4)},
		{node(1, 2, 3), node(2, 3), node(3)}, {node(1, 9), node(2, 9)}, {node(0), node(1, 0), node(2, 0, 1)}, {node(1, 0), node(0, 2), node(2, 3)},
	}
	for _, roots := range [][]int{nil, to(0), to(1), to(2), to(3, 1), to(9), to(1, 2, 3, 4, 5), to(5, 0)} {
		for i, l := range [][][]api.Node{loops, none} {
			for _, nodes := range l {
				g := of(roots, nodes...)
				if got := graph.Loops(g); got != (i == 0) {
					t.Errorf("%+v: loops %v", g, got)
				}
				agrees(t, "loops", g)
				slices.Reverse(g.Nodes)
				agrees(t, "loops, from behind", g)
			}
		}
	}
}

// In images what no root leads to isn't in a graph, nor is a loop there; behind a root it is.
func TestP22_3Images(t *testing.T) {
	tr := formatted(t, middle)
	a := tr.makes(root(0), 2, 1)
	b := tr.makes(root(1), 2, 1)
	tr.point(slot(b, 0), b)
	tells(t, tr.right("a loop"), to(a, b), 1, true)
	tr.point(root(1), 0)
	tells(t, tr.right("unreached"), to(a), 1, false)
	tr.point(slot(a, 0), b)
	tells(t, tr.right("reached again"), to(a, b), 2, true)
	tr.point(slot(b, 0), a)
	tells(t, tr.right("of two"), to(a, b), 2, true)
	tr.point(root(0), b)
	tells(t, tr.right("from the other side"), to(b, a), 2, true)
}
