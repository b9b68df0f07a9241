package lane_test

import (
	"math"
	"slices"
	"testing"

	"trencher/api"
	"trencher/env"
	"trencher/lane"
	"trencher/locks"
	"trencher/pmem"
)

// stepsAre holds the steps of a deed, one by one, against those that it should do.
func stepsAre(t *testing.T, what any, words []uint64, deed func(*env.Env) []uint64, want []step) {
	t.Helper()
	got := traced(words, deed)
	for i := range min(len(got), len(want)) {
		if got[i] != want[i] {
			t.Fatalf("%v: step %d is %v, not %v", what, i, got[i], want[i])
		}
	}
	if len(got) != len(want) {
		t.Fatalf("%v: %d steps, not %d", what, len(got), len(want))
	}
}

// goes holds what a log does to a region, at once, against the plain steps, and what some of its steps leave without power.
func goes(t *testing.T, words []uint64, g api.Geometry, n int, l []api.Entry) {
	t.Helper()
	want := plainThrough(n, l)
	what := []any{g, n, l}
	plain := pmem.Of(words)
	for i, s := range want {
		if i == len(want)/5 || i == len(want)-4 {
			less := pmem.Of(words)
			for _, s := range want[:i] {
				s.on(less)
			}
			r, _ := begun(words, through(g, n, l), i)
			sameWithout(t, what, r, less, picks(0)[1])
		}
		s.on(plain)
	}
	r, x := begun(words, through(g, n, l), len(want))
	if !x.Over() || !slices.Equal(x.Answer(), []uint64{1}) || x.Steps() != len(want) {
		t.Fatalf("%v: %v, %v behind %d steps of %d", what, x.Over(), x.Answer(), x.Steps(), len(want))
	}
	sameRegion(t, what, r, plain)
}

// goesStepwise holds what a log does to a region step by step, from one of them on, against the plain steps.
func goesStepwise(t *testing.T, words []uint64, g api.Geometry, n int, l []api.Entry, from int) {
	t.Helper()
	want := plainThrough(n, l)
	what := []any{g, n, l}
	plain := pmem.Of(words)
	for _, s := range want[:from] {
		s.on(plain)
	}
	r, x := begun(words, through(g, n, l), from)
	for _, s := range want[from:] {
		if x.Over() || x.Step() != env.Stepped {
			t.Fatalf("%v: no step behind %d", what, x.Steps())
		}
		s.on(plain)
		sameRegion(t, what, r, plain)
	}
	if !x.Over() || !slices.Equal(x.Answer(), []uint64{1}) {
		t.Fatalf("%v: %v, %v", what, x.Over(), x.Answer())
	}
}

// Each step of logs of all kinds, through each lane.
func TestP17_1Steps(t *testing.T) {
	for _, g := range few() {
		l := logs(g)
		if g.Spans > 3 {
			l = some(g)
		}
		for i, log := range l {
			n := i % g.Lanes
			stepsAre(t, []any{g, n, log}, busy(g), through(g, n, log), plainThrough(n, log))
		}
		for n := range g.Lanes {
			for _, log := range some(g) {
				stepsAre(t, []any{g, n, log}, fresh(g), through(g, n, log), plainThrough(n, log))
			}
		}
	}
}

func TestP17_1Logs(t *testing.T) {
	for _, g := range few() {
		for n := range g.Lanes {
			for i, l := range logs(g) {
				goes(t, busy(g), g, n, l)
				goes(t, fresh(g), g, n, l)
				if i%5 == 0 {
					goesStepwise(t, busy(g), g, n, l, i%11)
				}
			}
		}
	}
}

// Each address that may be written, alone and as the last one of the longest log, and each number of entries.
func TestP17_1EachAddress(t *testing.T) {
	for _, g := range []api.Geometry{least, {Spans: 2, Lanes: 4, Roots: 8}} {
		words := busy(g)
		for i, at := range writable(g) {
			goes(t, words, g, i%g.Lanes, []api.Entry{{At: at, X: uint64(i)}})
			l := spread(g, 16, i, 5)
			l[15].At = at
			goes(t, words, g, i%g.Lanes, l)
		}
	}
	for many := 1; many <= 16; many++ {
		for _, apart := range []int{0, 1, 3, 8} {
			goes(t, busy(middle), middle, many%2, spread(middle, many, 3, apart))
		}
	}
}

// All geometries that may be, the first lane and the last.
func TestP17_1EachGeometry(t *testing.T) {
	for _, g := range everyGeometry() {
		var l []api.Entry
		for i, at := range edges(g) {
			l = append(l, api.Entry{At: at, X: uint64(i)})
		}
		goes(t, fresh(g), g, 0, l)
		goes(t, fresh(g), g, g.Lanes-1, reversed(l))
	}
}

// A lane's seal and words that stand there already are overwritten, as far as the log's go, whatever they are.
func TestP17_1OverOthers(t *testing.T) {
	g := middle
	for _, l := range some(g) {
		for n := range g.Lanes {
			words := busy(g)
			for _, x := range []uint64{1, full, seal(logWords(l)), seal(nil)} {
				words[laneAt(n)] = x
				goes(t, words, g, n, l)
			}
			written(words, n, spread(g, 16, 2, 1))
			goes(t, words, g, n, l)
			written(words, 1-n, spread(g, 16, 2, 1))
			goes(t, words, g, n, l)
		}
	}
}

// Several logs, one behind the other in one deed, through one lane and through several.
func TestP17_1BehindOneAnother(t *testing.T) {
	g := api.Geometry{Spans: 2, Lanes: 3, Roots: 7}
	for _, apart := range []int{0, 1} {
		var want []step
		for i, l := range some(g) {
			want = append(want, plainThrough(i*apart%g.Lanes, l)...)
		}
		stepsAre(t, apart, busy(g), func(e *env.Env) []uint64 {
			for i, l := range some(g) {
				if !lane.Through(e, g, i*apart%g.Lanes, l) {
					t.Fatal("false", l)
				}
			}
			return nil
		}, want)
	}
}

// stays holds what may not go: false, and no step is done, at once and step by step.
func stays(t *testing.T, words []uint64, g api.Geometry, n int, l []api.Entry) {
	t.Helper()
	r := pmem.Of(words)
	x := env.New(r, locks.New(api.Locks), 0, through(g, n, l))
	if s := x.Step(); s != env.Over || r.Steps() != 0 || x.Steps() != 0 || !slices.Equal(x.Answer(), []uint64{0}) {
		t.Fatalf("%v, %d, %v: %d, %d steps, %v", g, n, l, s, r.Steps(), x.Answer())
	}
	if code := env.New(r, locks.New(api.Locks), 0, through(g, n, l)).All(0); code != api.OK || r.Steps() != 0 || differ(r.Seen(), words) >= 0 || differ(r.Kept(), words) >= 0 {
		t.Fatalf("%v, %d, %v: %d, %d steps", g, n, l, code, r.Steps())
	}
}

func TestP17_1NoGeometry(t *testing.T) {
	for _, g := range noGeometries() {
		for _, n := range []int{0, 1, 3, -1, 4} {
			stays(t, busy(most), g, n, []api.Entry{{At: 8, X: 1}})
			stays(t, busy(most), g, n, []api.Entry{{At: spanAt(most, 0), X: 1}, {At: 8, X: 1}})
			stays(t, busy(most), g, n, nil)
		}
	}
}

func TestP17_1NoLane(t *testing.T) {
	for _, g := range few() {
		for _, n := range append(wrongCounts(g.Lanes-1), g.Lanes, g.Lanes+1, 4, 5, 40) {
			if n == 0 {
				continue
			}
			for _, l := range some(g) {
				stays(t, busy(g), g, n, l)
			}
			stays(t, busy(g), g, n, nil)
		}
	}
}

func TestP17_1NoLog(t *testing.T) {
	for _, g := range few() {
		for _, l := range noLogs(g) {
			stays(t, fresh(g), g, len(l)%g.Lanes, l)
		}
	}
}

// An address that may not be written, each that there is, first, in the middle and last.
func TestP17_1NoAddress(t *testing.T) {
	for _, g := range few() {
		words := busy(g)
		for i, at := range unwritable(g) {
			n := i % g.Lanes
			stays(t, words, g, n, []api.Entry{{At: at, X: 1}})
			if at >= 0 && at < total(g) {
				// Nor may it be written, if what is there already would stay.
				stays(t, words, g, n, []api.Entry{{At: at, X: words[at]}})
			}
			for _, many := range []int{2, 16} {
				for _, j := range []int{0, many / 2, many - 1} {
					l := spread(g, many, i, 3)
					l[j].At = at
					stays(t, words, g, n, l)
				}
			}
		}
	}
}

// What may be written is told by the geometry that is handed in, not by the region: which of the roots, and of other parts.
func TestP17_1OtherGeometry(t *testing.T) {
	for roots := 1; roots <= 8; roots++ {
		g := api.Geometry{Spans: 1, Lanes: 1, Roots: roots}
		for i := range 8 {
			l := []api.Entry{{At: rootAt(i), X: 9}}
			if i < roots {
				goes(t, fresh(least), g, 0, l)
			} else {
				stays(t, fresh(api.Geometry{Spans: 1, Lanes: 1, Roots: 8}), g, 0, l)
			}
		}
	}
	stays(t, fresh(most), least, 1, []api.Entry{{At: 8}})
	stays(t, fresh(most), least, 0, []api.Entry{{At: total(least)}})
	// Of a region that ends ahead of the geometry's the steps are the same, though those behind its end do nothing.
	r, x := begun(fresh(least), through(most, 3, []api.Entry{{At: 8, X: 5}, {At: total(most) - 1, X: 6}}), -1)
	if !slices.Equal(x.Answer(), []uint64{1}) || x.Steps() != 4+1+1+3+2+2+1+3 || r.Kept()[8] != 5 || r.Steps() != 6 {
		t.Error(x.Answer(), x.Steps(), r.Kept()[8], r.Steps())
	}
}

// Where there is no Env nothing goes.
func TestP17_1NoEnv(t *testing.T) {
	for _, g := range append(noGeometries(), least, most) {
		if lane.Through(nil, g, 0, []api.Entry{{At: 8}}) || lane.Replay(nil, g) != 0 {
			t.Error(g)
		}
	}
}

// What is handed in stays as it is, its spare room too, while the log goes and when it doesn't.
func TestP17_1Unchanged(t *testing.T) {
	g := middle
	for _, l := range append(append(logs(g), noLogs(g)...), []api.Entry{{At: 8}, {At: 0}}) {
		room := append(slices.Clone(l), spread(g, 40, 2, 1)...)
		was := slices.Clone(room)
		in := room[:len(l)]
		_, x := begun(busy(g), through(g, 1, in), 7)
		for !x.Over() && x.Step() != env.Over {
			if !slices.Equal(room, was) {
				t.Fatalf("%v: turned by a step", l)
			}
		}
		lane.Cost(in)
		lane.Lines(in)
		if !slices.Equal(room, was) {
			t.Fatalf("%v: turned", l)
		}
	}
}

// The chapter's example: a log of one entry.
func TestP17_2Example(t *testing.T) {
	l := []api.Entry{{At: 8, X: 7}}
	if got := lane.Cost(l); got != 13 {
		t.Error(got)
	}
	stepsAre(t, "example", fresh(least), through(least, 0, l), []step{
		{store, 24, 8}, {store, 25, 7}, {flush, 24, 0}, {kind: fence},
		{store, 16, seal([]uint64{8, 7})}, {flush, 16, 0}, {kind: fence},
		{store, 8, 7}, {flush, 8, 0}, {kind: fence},
		{store, 16, 0}, {flush, 16, 0}, {kind: fence},
	})
}

// costs holds Cost against the steps of the log through each lane, and Lines against the lines that are flushed for its entries.
func costs(t *testing.T, g api.Geometry, l []api.Entry) {
	t.Helper()
	lines := 0
	for _, s := range plainThrough(0, l) {
		if s.kind == flush {
			lines++
		}
	}
	// Of its words and its entries the stores, of its seal two more, and four fences.
	if got, want := lane.Cost(l), 3*len(l)+2+lines+4; got != want {
		t.Fatalf("%v: %d, not %d", l, got, want)
	}
	for n := range g.Lanes {
		if r, x := begun(fresh(g), through(g, n, l), -1); x.Steps() != lane.Cost(l) || r.Steps() != int64(lane.Cost(l)) {
			t.Fatalf("%v, %d, %v: %d steps, not %d", g, n, l, x.Steps(), lane.Cost(l))
		}
		if _, x := begun(fresh(g), through(g, n, l), lane.Cost(l)-1); x.Over() {
			t.Fatalf("%v, %d, %v: over ahead of %d steps", g, n, l, lane.Cost(l))
		}
	}
	if got := lane.Lines(l); !slices.Equal(got, plainLines(l)) {
		t.Fatalf("%v: %v, not %v", l, got, plainLines(l))
	}
}

func TestP17_2Cost(t *testing.T) {
	for _, g := range few() {
		for _, l := range logs(g) {
			costs(t, g, l)
		}
	}
	// The cheapest logs of each length, and the dearest: in one line, and each in its own.
	dear := []int{13, 17, 21, 25, 30, 34, 38, 42, 47, 51, 55, 59, 64, 68, 72, 76}
	for i, want := range dear {
		n := i + 1
		if got := lane.Cost(spread(most, n, most.Roots, 2)); got != want {
			t.Errorf("%d in lines of their own: %d, not %d", n, got, want)
		}
		if got := lane.Cost(spread(most, n, 9, 0)); got != want-i {
			t.Errorf("%d in one line: %d, not %d", n, got, want-i)
		}
	}
}

// Of a log that may not be there is no cost; of one whose addresses may not be written there is: which may be is for a geometry to tell.
func TestP17_2NoCost(t *testing.T) {
	for _, g := range few() {
		for _, l := range noLogs(g) {
			if got := lane.Cost(l); got != 0 {
				t.Fatalf("%v: %d", l, got)
			}
		}
	}
	for at := range 16384 {
		if got := lane.Cost([]api.Entry{{At: at}}); got != 13 {
			t.Fatalf("%d: %d", at, got)
		}
	}
	if got := lane.Cost([]api.Entry{{At: 0}, {At: 16383}, {At: 7}}); got != 6+1+1+3+3+2+1+3 {
		t.Error(got)
	}
}

// Each address is in the line that begins at the multiple of 8 at it or ahead of it.
func TestP17_2Lines(t *testing.T) {
	for at := range 16384 {
		if got := lane.Lines([]api.Entry{{At: at, X: full}}); !slices.Equal(got, []int{at - at%8}) {
			t.Fatalf("%d: %v", at, got)
		}
	}
	for _, c := range []struct{ at, want []int }{
		{nil, nil},
		{[]int{0, 7}, []int{0}},
		{[]int{7, 8}, []int{0, 8}},
		{[]int{8, 7}, []int{0, 8}},
		{[]int{16383, 0, 16376, 16375}, []int{0, 16368, 16376}},
		{[]int{24, 8, 16, 8, 24, 31}, []int{8, 16, 24}},
		{[]int{5, 5, 5}, []int{0}},
		{[]int{100, 10, 1000, 9, 101, 999}, []int{8, 96, 992, 1000}},
	} {
		var l []api.Entry
		for i, at := range c.at {
			l = append(l, api.Entry{At: at, X: uint64(i)})
		}
		if got := lane.Lines(l); !slices.Equal(got, c.want) {
			t.Errorf("%v: %v, not %v", c.at, got, c.want)
		}
	}
	if got := lane.Lines([]api.Entry{}); len(got) != 0 {
		t.Error(got)
	}
}

// Lines of any numbers of entries, of which a log has fewer, and of any addresses, of which a region has none.
func TestP17_2LinesOfNoLog(t *testing.T) {
	for _, n := range []int{17, 18, 100, 5000} {
		l := spread(most, n, 1, 7)
		if got := lane.Lines(l); !slices.Equal(got, plainLines(l)) {
			t.Errorf("%d: %v, not %v", n, got, plainLines(l))
		}
	}
	at := []int{-1, 16384, -8, 1 << 40, math.MinInt, -9, math.MaxInt, 1<<40 + 7, -7, 3}
	want := []int{math.MinInt, -16, -8, 0, 16384, 1 << 40, math.MaxInt - 7}
	var l []api.Entry
	for _, a := range at {
		l = append(l, api.Entry{At: a})
	}
	if got := lane.Lines(l); !slices.Equal(got, want) {
		t.Errorf("%v, not %v", got, want)
	}
}

// What is done with an answer changes neither what was handed in nor what is told later.
func TestP17_2NewMemory(t *testing.T) {
	for _, g := range few() {
		for _, l := range logs(g) {
			was := slices.Clone(l)
			got, again := lane.Lines(l), lane.Lines(l)
			want := slices.Clone(got)
			for i := range got {
				got[i] = -5
			}
			_ = append(got, 1, 2, 3)
			if !slices.Equal(again, want) || !slices.Equal(lane.Lines(l), want) || !slices.Equal(l, was) {
				t.Fatalf("%v: %v, %v, not %v", l, again, lane.Lines(l), want)
			}
			l[0].At = 0
			if !slices.Equal(again, want) {
				t.Fatalf("%v: turned with what was handed in", was)
			}
		}
	}
}

// What was asked ahead of it turns no answer.
func TestP17_2Same(t *testing.T) {
	l := spread(middle, 9, 2, 5)
	lines, cost := lane.Lines(l), lane.Cost(l)
	for _, g := range few() {
		for _, other := range append(logs(g), noLogs(g)...) {
			lane.Cost(other)
			lane.Lines(other)
			if !slices.Equal(lane.Lines(l), lines) || lane.Cost(l) != cost {
				t.Fatalf("%v behind %v", l, other)
			}
		}
	}
	goes(t, busy(middle), middle, 1, l)
}
