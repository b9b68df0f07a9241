package geom

import (
	"math"
	"testing"

	"trencher/api"
)

// least and most are the geometries at the edges; middle is one between them, with other numbers of each kind.
var (
	least  = api.Geometry{Spans: 1, Lanes: 1, Roots: 1}
	most   = api.Geometry{Spans: 16, Lanes: 4, Roots: 8}
	middle = api.Geometry{Spans: 2, Lanes: 3, Roots: 5}
)

// nowhere is the place of an address that there isn't.
var nowhere = api.Place{Area: 5, Part: -1, Off: 0}

// everyGeometry are all that may be.
func everyGeometry() []api.Geometry {
	var l []api.Geometry
	for spans := 1; spans <= 16; spans++ {
		for lanes := 1; lanes <= 4; lanes++ {
			for roots := 1; roots <= 8; roots++ {
				l = append(l, api.Geometry{Spans: spans, Lanes: lanes, Roots: roots})
			}
		}
	}
	return l
}

// wrong are numbers of which there are none of anything that has so many at most, those at the edges first.
func wrong(most int) []int {
	return []int{0, most + 1, -1, most + 2, -2, most * 2, -most, 255, 1<<8 + 1, 1<<16 + 1, 1<<32 + 1, -1 << 32, 1 - 1<<32, math.MaxInt32, math.MinInt32, math.MaxInt - 1, math.MaxInt, math.MinInt, math.MinInt + 1}
}

// noGeometries are some that may not be: with one number that is wrong, with two, and with three.
func noGeometries() []api.Geometry {
	l := []api.Geometry{{}, {Spans: -1, Lanes: -1, Roots: -1}, {Spans: 17, Lanes: 5, Roots: 9}, {Spans: 16, Lanes: 8, Roots: 4}, {Spans: 8, Lanes: 16, Roots: 4}, {Spans: 4, Lanes: 4, Roots: 16}}
	for _, g := range []api.Geometry{least, middle, most} {
		for _, n := range wrong(16) {
			l = append(l, api.Geometry{Spans: n, Lanes: g.Lanes, Roots: g.Roots})
		}
		for _, n := range wrong(4) {
			l = append(l, api.Geometry{Spans: g.Spans, Lanes: n, Roots: g.Roots})
			l = append(l, api.Geometry{Spans: n, Lanes: n, Roots: g.Roots})
		}
		for _, n := range wrong(8) {
			l = append(l, api.Geometry{Spans: g.Spans, Lanes: g.Lanes, Roots: n})
			l = append(l, api.Geometry{Spans: g.Spans, Lanes: n, Roots: n})
			l = append(l, api.Geometry{Spans: n, Lanes: g.Lanes, Roots: n})
		}
	}
	return l
}

// plain has the place of each of a region's words, laid one behind the other as the document's Words have them.
func plain(g api.Geometry) []api.Place {
	var l []api.Place
	lay := func(area, part, words int) {
		for off := range words {
			l = append(l, api.Place{Area: area, Part: part, Off: off})
		}
	}
	lay(api.AreaSuper, 0, 8)
	for i := range g.Roots {
		lay(api.AreaRoots, i, 1)
	}
	for off := g.Roots; off < 8; off++ {
		l = append(l, api.Place{Area: api.AreaRoots, Part: -1, Off: off})
	}
	for i := range g.Lanes {
		lay(api.AreaLanes, i, 40)
	}
	for i := range g.Spans {
		lay(api.AreaHeads, i, 8)
	}
	for i := range g.Spans {
		lay(api.AreaHeap, i, 64)
	}
	return l
}

// kind is what there is some of: its area, how many of it a geometry has, and the call that tells where one begins.
type kind struct {
	name  string
	area  int
	many  int
	begin func(g api.Geometry, i int) int
}

func kinds(g api.Geometry) []kind {
	return []kind{
		{"Root", api.AreaRoots, g.Roots, Root},
		{"Lane", api.AreaLanes, g.Lanes, Lane},
		{"Head", api.AreaHeads, g.Spans, Head},
		{"Span", api.AreaHeap, g.Spans, Span},
	}
}

// beyond are numbers below 0, and numbers from a size on.
func beyond(size int) []int {
	return []int{-1, -2, -8, -size, -size - 1, -1 << 31, -1 << 32, math.MinInt, math.MinInt + 1, size, size + 1, size + 7, size * 2, 1000000, 1 << 31, 1 << 32, 1<<32 + 1, math.MaxInt - 63, math.MaxInt - 1, math.MaxInt}
}

func TestP5_1May(t *testing.T) {
	for spans := -3; spans <= 40; spans++ {
		for lanes := -3; lanes <= 20; lanes++ {
			for roots := -3; roots <= 20; roots++ {
				g := api.Geometry{Spans: spans, Lanes: lanes, Roots: roots}
				want := spans > 0 && spans < 17 && lanes > 0 && lanes < 5 && roots > 0 && roots < 9
				if May(g) != want {
					t.Fatal(g, May(g))
				}
			}
		}
	}
	for _, g := range noGeometries() {
		if May(g) {
			t.Error(g)
		}
	}
}

func TestP5_1Total(t *testing.T) {
	for _, g := range everyGeometry() {
		if n := Total(g); n != 16+40*g.Lanes+72*g.Spans || n != len(plain(g)) {
			t.Errorf("%v has %d words", g, n)
		}
		// A region is one of package pmem.
		if n := Total(g); n%api.Line != 0 || n > api.MaxRegion {
			t.Errorf("%v has %d words", g, n)
		}
	}
	for _, c := range []struct {
		g api.Geometry
		n int
	}{{least, 128}, {middle, 280}, {most, 1328}, {api.Geometry{Spans: 16, Lanes: 1, Roots: 1}, 1208}, {api.Geometry{Spans: 1, Lanes: 4, Roots: 1}, 248}, {api.Geometry{Spans: 1, Lanes: 1, Roots: 8}, 128}} {
		if n := Total(c.g); n != c.n {
			t.Errorf("%v has %d words, not %d", c.g, n, c.n)
		}
	}
	for _, g := range noGeometries() {
		if n := Total(g); n != 0 {
			t.Errorf("%v has %d words", g, n)
		}
	}
}

// Every root, lane, head and span begins where its first word was laid.
func TestP5_2Begin(t *testing.T) {
	for _, g := range everyGeometry() {
		for _, k := range kinds(g) {
			found := 0
			for a, p := range plain(g) {
				if p.Area != k.area || p.Part < 0 || p.Off != 0 {
					continue
				}
				found++
				if got := k.begin(g, p.Part); got != a {
					t.Fatalf("%v: %s %d at %d, not %d", g, k.name, p.Part, got, a)
				}
			}
			if found != k.many {
				t.Fatalf("%v: %d of %s laid, not %d", g, found, k.name, k.many)
			}
		}
	}
}

// The first and the last of each, as numbers.
func TestP5_2Edges(t *testing.T) {
	at := func(what string, got, want int) {
		t.Helper()
		if got != want {
			t.Errorf("%s at %d, not %d", what, got, want)
		}
	}
	at("least: root 0", Root(least, 0), 8)
	at("least: lane 0", Lane(least, 0), 16)
	at("least: head 0", Head(least, 0), 56)
	at("least: span 0", Span(least, 0), 64)
	at("least: entry 0", Entry(least, 0, 0), 24)
	at("least: entry 15", Entry(least, 0, 15), 54)
	at("most: root 0", Root(most, 0), 8)
	at("most: root 7", Root(most, 7), 15)
	at("most: lane 0", Lane(most, 0), 16)
	at("most: lane 3", Lane(most, 3), 136)
	at("most: head 0", Head(most, 0), 176)
	at("most: head 15", Head(most, 15), 296)
	at("most: span 0", Span(most, 0), 304)
	at("most: span 15", Span(most, 15), 1264)
	at("most: entry 0 of lane 0", Entry(most, 0, 0), 24)
	at("most: entry 15 of lane 0", Entry(most, 0, 15), 54)
	at("most: entry 0 of lane 3", Entry(most, 3, 0), 144)
	at("most: entry 15 of lane 3", Entry(most, 3, 15), 174)
	at("middle: root 4", Root(middle, 4), 12)
	at("middle: lane 2", Lane(middle, 2), 96)
	at("middle: head 1", Head(middle, 1), 144)
	at("middle: span 1", Span(middle, 1), 216)
}

func TestP5_2NoSuchOne(t *testing.T) {
	for _, g := range everyGeometry() {
		for _, k := range kinds(g) {
			for _, i := range beyond(k.many) {
				if got := k.begin(g, i); got != -1 {
					t.Fatalf("%v: %s %d at %d", g, k.name, i, got)
				}
			}
		}
	}
}

// Of a geometry that may not be there is none, whichever is asked for.
func TestP5_2NoGeometry(t *testing.T) {
	for _, g := range noGeometries() {
		for _, i := range append(beyond(1), 0, 2, 3, 4, 7, 8, 15, 16) {
			for _, k := range kinds(g) {
				if got := k.begin(g, i); got != -1 {
					t.Fatalf("%v: %s %d at %d", g, k.name, i, got)
				}
			}
			if got := Entry(g, 0, i); got != -1 {
				t.Fatalf("%v: entry %d at %d", g, i, got)
			}
			if got := Entry(g, i, 0); got != -1 {
				t.Fatalf("%v: entry 0 of lane %d at %d", g, i, got)
			}
		}
	}
}

func TestP5_2Entry(t *testing.T) {
	for _, g := range everyGeometry() {
		for lane := range g.Lanes {
			// Behind the lane's seal and seven unused words, two words each, up to the lane's end.
			at := 16 + 40*lane + 8
			for i := range 16 {
				if got := Entry(g, lane, i); got != at {
					t.Fatalf("%v: entry %d of lane %d at %d, not %d", g, i, lane, got, at)
				}
				at += 2
			}
			if at != Lane(g, lane)+40 {
				t.Fatalf("%v: the entries of lane %d end at %d", g, lane, at)
			}
			for _, i := range beyond(16) {
				if got := Entry(g, lane, i); got != -1 {
					t.Fatalf("%v: entry %d of lane %d at %d", g, i, lane, got)
				}
			}
		}
		for _, lane := range beyond(g.Lanes) {
			for _, i := range append(beyond(16), 0, 1, 15) {
				if got := Entry(g, lane, i); got != -1 {
					t.Fatalf("%v: entry %d of lane %d at %d", g, i, lane, got)
				}
			}
		}
	}
}

func TestP5_3Where(t *testing.T) {
	for _, g := range everyGeometry() {
		for a, want := range plain(g) {
			if got := Where(g, a); got != want {
				t.Fatalf("%v: address %d is at %v, not %v", g, a, got, want)
			}
		}
	}
}

func TestP5_3NoAddress(t *testing.T) {
	for _, g := range everyGeometry() {
		size := len(plain(g))
		for a := size; a < 2*size; a++ {
			if got := Where(g, a); got != nowhere {
				t.Fatalf("%v: address %d is at %v", g, a, got)
			}
		}
		for _, a := range beyond(size) {
			if got := Where(g, a); got != nowhere {
				t.Fatalf("%v: address %d is at %v", g, a, got)
			}
		}
	}
	for _, g := range noGeometries() {
		for a := range 200 {
			if got := Where(g, a); got != nowhere {
				t.Fatalf("%v: address %d is at %v", g, a, got)
			}
		}
		for _, a := range beyond(1328) {
			if got := Where(g, a); got != nowhere {
				t.Fatalf("%v: address %d is at %v", g, a, got)
			}
		}
	}
}

// found is an address, and its place as numbers of the document.
type found struct {
	a                int
	area, part, offs int
}

// places checks the places of a geometry's addresses.
func places(t *testing.T, g api.Geometry, l []found) {
	t.Helper()
	for _, f := range l {
		want := api.Place{Area: f.area, Part: f.part, Off: f.offs}
		if got := Where(g, f.a); got != want {
			t.Errorf("%v: address %d is at %v, not %v", g, f.a, got, want)
		}
	}
}

// The first and the last address of each part, the unused ones, and the ones just outside, as numbers.
func TestP5_3Edges(t *testing.T) {
	places(t, least, []found{
		{-1, 5, -1, 0}, {0, 0, 0, 0}, {7, 0, 0, 7},
		{8, 1, 0, 0}, {9, 1, -1, 1}, {15, 1, -1, 7},
		{16, 2, 0, 0}, {17, 2, 0, 1}, {23, 2, 0, 7}, {24, 2, 0, 8}, {55, 2, 0, 39},
		{56, 3, 0, 0}, {57, 3, 0, 1}, {58, 3, 0, 2}, {63, 3, 0, 7},
		{64, 4, 0, 0}, {127, 4, 0, 63}, {128, 5, -1, 0},
	})
	places(t, middle, []found{
		{12, 1, 4, 0}, {13, 1, -1, 5}, {15, 1, -1, 7},
		{55, 2, 0, 39}, {56, 2, 1, 0}, {95, 2, 1, 39}, {96, 2, 2, 0}, {135, 2, 2, 39},
		{136, 3, 0, 0}, {143, 3, 0, 7}, {144, 3, 1, 0}, {151, 3, 1, 7},
		{152, 4, 0, 0}, {215, 4, 0, 63}, {216, 4, 1, 0}, {279, 4, 1, 63}, {280, 5, -1, 0},
	})
	places(t, most, []found{
		{8, 1, 0, 0}, {14, 1, 6, 0}, {15, 1, 7, 0},
		{16, 2, 0, 0}, {136, 2, 3, 0}, {143, 2, 3, 7}, {144, 2, 3, 8}, {175, 2, 3, 39},
		{176, 3, 0, 0}, {183, 3, 0, 7}, {296, 3, 15, 0}, {298, 3, 15, 2}, {303, 3, 15, 7},
		{304, 4, 0, 0}, {1263, 4, 14, 63}, {1264, 4, 15, 0}, {1327, 4, 15, 63}, {1328, 5, -1, 0},
	})
}

// Each address is that of just one place, and is found again where its part begins.
func TestP5_4EachOnce(t *testing.T) {
	for _, g := range everyGeometry() {
		seen := map[api.Place]int{}
		for a := range Total(g) {
			p := Where(g, a)
			if b, twice := seen[p]; twice {
				t.Fatalf("%v: %d and %d are both at %v", g, a, b, p)
			}
			seen[p] = a
			if p.Area < 0 || p.Area >= api.AreaNone {
				t.Fatalf("%v: %d is at %v", g, a, p)
			}
			if b, known := back(g, p); known && b != a {
				t.Fatalf("%v: %d is at %v, which is at %d", g, a, p, b)
			}
		}
		if len(seen) != Total(g) {
			t.Fatalf("%v: %d places of %d words", g, len(seen), Total(g))
		}
	}
}

// back is the address of a place that is in a root, lane, head or span.
func back(g api.Geometry, p api.Place) (int, bool) {
	for _, k := range kinds(g) {
		if k.area == p.Area && p.Part >= 0 {
			return k.begin(g, p.Part) + p.Off, true
		}
	}
	return 0, false
}

// The parts, from where they begin on, as long as the document has them, have each address just once, with the superblock and the words that are unused.
func TestP5_4Parts(t *testing.T) {
	long := map[string]int{"Root": 1, "Lane": 40, "Head": 8, "Span": 64}
	for _, g := range everyGeometry() {
		owners := make([]int, Total(g))
		lay := func(at, words int) {
			for a := at; a < at+words; a++ {
				if a < 0 || a >= len(owners) {
					t.Fatalf("%v: address %d is outside", g, a)
				}
				owners[a]++
			}
		}
		lay(0, 8)
		lay(8+g.Roots, 8-g.Roots)
		for _, k := range kinds(g) {
			for i := range k.many {
				lay(k.begin(g, i), long[k.name])
			}
		}
		for a, n := range owners {
			if n != 1 {
				t.Fatalf("%v: address %d is %d parts'", g, a, n)
			}
		}
	}
}

func TestP5_Example(t *testing.T) {
	if !May(least) || Total(least) != 128 || Root(least, 0) != 8 || Lane(least, 0) != 16 || Head(least, 0) != 56 || Span(least, 0) != 64 {
		t.Error(Total(least), Root(least, 0), Lane(least, 0), Head(least, 0), Span(least, 0))
	}
}
