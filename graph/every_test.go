package graph_test

import (
	"slices"
	"testing"

	"trencher/api"
	"trencher/graph"
)

// lists are all lists of none up to so many of some pointers.
func lists(most int, pointers ...int) [][]int {
	l := [][]int{nil}
	from := 0
	for range most {
		till := len(l)
		for _, ahead := range l[from:till] {
			for _, at := range pointers {
				l = append(l, append(slices.Clone(ahead), at))
			}
		}
		from = till
	}
	return l
}

// every calls a function with all graphs of just so many objects, with up to two slots each and so many roots; these point to the objects, or to others.
func every(many, roots int, others []int, each func(g api.Graph)) {
	pointers := slices.Clone(others)
	for i := range many {
		pointers = append(pointers, i+1)
	}
	slots, g := lists(2, pointers...), api.Graph{Nodes: make([]api.Node, many)}
	var fill func(i int)
	fill = func(i int) {
		if i == many {
			each(g)
			return
		}
		for _, l := range slots {
			g.Nodes[i] = node(i+1, l...)
			fill(i + 1)
		}
	}
	for _, g.Roots = range lists(roots, pointers...) {
		fill(0)
	}
}

// All graphs of up to three objects with up to two slots each, and up to two roots.
func TestP22_2Every(t *testing.T) {
	seen := 0
	for many := range 4 {
		every(many, 2, to(0), func(g api.Graph) {
			for i := range g.Nodes {
				g.Nodes[i].Object = api.Object{Refs: i, Slots: len(g.Nodes[i].Slots), Words: 10 + i}
				g.Nodes[i].Data = []uint64{0, uint64(i)}[:i]
			}
			agrees(t, many, g)
			seen++
		})
	}
	if seen != 3+7*7+13*13*13+21*21*21*21 {
		t.Fatal(seen)
	}
}

// All graphs of up to two objects, with pointers also to what no node has.
func TestP22_2EveryOther(t *testing.T) {
	for many := range 3 {
		every(many, 2, to(0, 9), func(g api.Graph) { agrees(t, many, g) })
	}
}

// orders are all orders of the numbers below one.
func orders(n int) [][]int {
	if n == 0 {
		return [][]int{nil}
	}
	var l [][]int
	for _, o := range orders(n - 1) {
		for i := range n {
			l = append(l, slices.Insert(slices.Clone(o), i, n-1))
		}
	}
	return l
}

// matches tells whether two graphs' objects that are reached go together in some pairs, so that roots, slots, what they are and their data agree.
func matches(a, b api.Graph) bool {
	x, y := plainWalk(a), plainWalk(b)
	slices.Sort(x)
	slices.Sort(y)
	if len(x) != len(y) || len(a.Roots) != len(b.Roots) {
		return false
	}
	return slices.ContainsFunc(orders(len(x)), func(order []int) bool {
		pairs := map[int]int{}
		for i, k := range order {
			pairs[x[i]] = y[k]
		}
		agree := func(p, q []int) bool {
			return slices.EqualFunc(p, q, func(p, q int) bool {
				other, ok := pairs[p]
				return ok && other == q || !ok && !slices.Contains(y, q)
			})
		}
		for _, at := range x {
			m, n := a.Nodes[find(a, at)], b.Nodes[find(b, pairs[at])]
			if m.Object != n.Object || !agree(m.Slots, n.Slots) || !slices.Equal(m.Data, n.Data) {
				return false
			}
		}
		return agree(a.Roots, b.Roots)
	})
}

// Any two graphs of up to two objects, and one root: they are alike just if their objects go together in pairs, and just then they have one shape.
func TestP22_2EveryPair(t *testing.T) {
	var graphs []api.Graph
	for many := range 3 {
		every(many, 1, to(0), func(g api.Graph) { graphs = append(graphs, copied(g)) })
	}
	pairs(t, graphs, len(graphs))
}

// pairs checks whether graphs are alike, each with each, as at least so many of these pairs are.
func pairs(t *testing.T, graphs []api.Graph, least int) {
	t.Helper()
	shapes := make([][]uint64, len(graphs))
	for i, g := range graphs {
		shapes[i] = graph.Shape(g)
	}
	found := 0
	for i, a := range graphs {
		for k, b := range graphs[:i] {
			want := matches(a, b)
			if got := graph.Alike(a, b); got != want || slices.Equal(shapes[i], shapes[k]) != want {
				t.Fatalf("%+v and %+v: %v, not %v", a, b, got, want)
			}
			if want {
				found++
			}
		}
	}
	if found < least {
		t.Fatal(found)
	}
}

// Some graphs of three objects that differ in what they are, too.
func TestP22_2SomePairs(t *testing.T) {
	next := chance(31)
	var graphs []api.Graph
	for range 700 {
		g := of(to(1+next(3), 1+next(4)))
		for at := 1; at < 4; at++ {
			n := node(at, lists(2, 0, 1, 2, 3)[next(21)]...)
			n.Object = api.Object{Slots: len(n.Slots), Words: 2 + next(2)*next(2)}
			n.Data = []uint64{0, 5}[:next(2)*next(2)]
			g.Nodes = append(g.Nodes, n)
		}
		graphs = append(graphs, g)
	}
	pairs(t, graphs, 100)
}

// moved is the same graph under other addresses, with its nodes in another order. What no node has stays so.
func moved(g api.Graph, next func(below int) int, address func(at int) int) api.Graph {
	addresses := map[int]int{}
	for _, n := range g.Nodes {
		addresses[n.At] = address(n.At)
	}
	turn := func(l []int) {
		for i, at := range l {
			if other, ok := addresses[at]; ok {
				l[i] = other
			} else if at != 0 {
				l[i] = -7777
			}
		}
	}
	m := copied(g)
	turn(m.Roots)
	for i := range m.Nodes {
		m.Nodes[i].At = addresses[m.Nodes[i].At]
		turn(m.Nodes[i].Slots)
	}
	for i := range m.Nodes {
		k := next(i + 1)
		m.Nodes[i], m.Nodes[k] = m.Nodes[k], m.Nodes[i]
	}
	return m
}

// moves are ways to turn addresses, each into another one.
func moves() []func(at int) int {
	return []func(at int) int{
		func(at int) int { return at },
		func(at int) int { return at + 1 },
		func(at int) int { return at*2 + 64 },
		func(at int) int { return -at },
		func(at int) int { return 1<<63 - 1 - at },
		func(at int) int { return -1<<63 + at },
		func(at int) int { return at<<32 + 5 },
		func(at int) int { return at ^ 0x55 | 1<<20 },
	}
}

// Which addresses objects have, and how the nodes are ordered, makes no difference to a shape; nor to how deep they are, and whether there are loops.
func TestP22_4Moved(t *testing.T) {
	next := chance(8)
	for many := range 4 {
		seen := 0
		every(many, 1, to(0, 9), func(g api.Graph) {
			// Of the many graphs of three objects some do.
			if seen++; many < 3 || seen%29 == 0 {
				stays(t, g, next)
			}
		})
	}
	for seed, g := range few() {
		m := &maker{formatted(t, g), chance(seed + 70)}
		for range 6 {
			for range 40 {
				m.call()
			}
			stays(t, m.tr.right(seed), next)
		}
	}
}

// stays checks that a graph is alike itself wherever it is moved.
func stays(t *testing.T, g api.Graph, next func(below int) int) {
	t.Helper()
	shape := graph.Shape(g)
	alike(t, "itself", g, g, true)
	for i, address := range moves() {
		m := moved(g, next, address)
		if got := graph.Shape(m); !slices.Equal(got, shape) {
			t.Fatalf("%d: %+v, moved %+v: shape %v, not %v", i, g, m, got, shape)
		}
		alike(t, i, g, m, true)
		if graph.Depth(m) != graph.Depth(g) || graph.Loops(m) != graph.Loops(g) {
			t.Fatalf("%d: %+v, moved %+v: %d, %v", i, g, m, graph.Depth(m), graph.Loops(m))
		}
	}
}

// The same objects, made by calls in each order, behind some garbage, so that they have other addresses: one shape.
func TestP22_4OtherCalls(t *testing.T) {
	var shape []uint64
	addresses := map[[4]int]int{}
	for turn, order := range orders(4) {
		tr := formatted(t, middle)
		for i := range turn % 5 {
			tr.makes(root(0), 2+i, 0)
			tr.point(root(0), 0)
		}
		var at [4]int
		for _, i := range order {
			at[i] = tr.makes(root(i), 2+i/2, 2)
		}
		for _, i := range order {
			tr.point(slot(at[i], 0), at[(i+1)%4])
			tr.point(slot(at[i], 1), at[i*i%4])
		}
		for i := 1; i < 4; i++ {
			tr.point(root(i), 0)
		}
		addresses[at]++
		got := graph.Shape(tr.right(turn))
		if turn == 0 {
			shape = got
		}
		if !slices.Equal(got, shape) || len(got) != 1+4+1+4*6+2 {
			t.Fatalf("%v: %v, not %v", order, got, shape)
		}
	}
	if len(addresses) < 12 {
		t.Fatal(addresses)
	}
}

// Greater graphs by chance: with several nodes of one address, pointers to none, and addresses of any kind.
func TestP22_2Chance(t *testing.T) {
	for seed := range 3000 {
		next := chance(seed + 5000)
		addresses := append(to(0, 1, 2, 3, 4, 64, 68, 72, 76), far()...)[:2+next(18)]
		pointers := func(most int) []int {
			var l []int
			for range next(most + 1) {
				l = append(l, addresses[next(len(addresses))])
			}
			return l
		}
		g := of(pointers(4))
		for range next(14) {
			n := node(addresses[next(len(addresses))], pointers(1+next(4))...)
			n.Object = api.Object{Refs: next(3), Slots: next(3), Words: next(5) - 1}
			for range next(3) {
				n.Data = append(n.Data, uint64(next(1<<62)))
			}
			g.Nodes = append(g.Nodes, n)
		}
		agrees(t, seed, g)
	}
}
