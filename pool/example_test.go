package pool_test

import (
	"testing"

	"trencher/api"
	"trencher/pool"
)

// The chapter's example.
func TestP21_3Example(t *testing.T) {
	p := pool.Format(least)
	if at, code := p.MallocTo(root(0), 3, 0); at != 76 || code != 0 {
		t.Fatal(at, code)
	}
	if code := p.Fail(func(int) int { return 0 }); code != 0 {
		t.Fatal(code)
	}
	if x, code := p.ReadData(76, 0); x != 0 || code != 0 {
		t.Fatal(x, code)
	}
}

// one is the pool of an example, on {1 span, 1 lane, 1 root}, with its first object.
func one(t *testing.T) *pool.Pool {
	t.Helper()
	p := pool.Format(least)
	makes(t, p, root(0), 3, 1, 76, 0)
	return p
}

// makes checks which address, and which error, a Malloc tells.
func makes(t *testing.T, p *pool.Pool, d api.Dest, words, slots, at int, code api.Errno) {
	t.Helper()
	if got, err := p.MallocTo(d, words, slots); got != at || err != code {
		t.Fatalf("malloc %v %d %d: %d, %d, not %d, %d", d, words, slots, got, err, at, code)
	}
}

// ends checks what a Free tells, likewise.
func ends(t *testing.T, p *pool.Pool, d api.Dest, at int, code api.Errno) {
	t.Helper()
	if got, err := p.FreeFrom(d); got != at || err != code {
		t.Fatalf("free %v: %d, %d, not %d, %d", d, got, err, at, code)
	}
}

// reads checks what a datum is.
func reads(t *testing.T, p *pool.Pool, at, i int, x uint64) {
	t.Helper()
	if got, err := p.ReadData(at, i); got != x || err != 0 {
		t.Fatalf("read %d %d: %d, %d, not %d", at, i, got, err, x)
	}
}

// counts checks the stats beside the steps.
func counts(t *testing.T, p *pool.Pool, spans, objects, words, garbage, free int) {
	t.Helper()
	s := p.Stats()
	s.Steps = 0
	if s != (api.Stats{Spans: spans, Objects: objects, Words: words, Garbage: garbage, Free: free}) {
		t.Fatalf("stats %+v", s)
	}
}

// fine checks that none of these is an error.
func fine(t *testing.T, codes ...api.Errno) {
	t.Helper()
	for i, code := range codes {
		if code != 0 {
			t.Fatalf("%d: %d", i, code)
		}
	}
}

// The document's examples of the whole, as far as a pool does them.
func TestP21_3Whole(t *testing.T) {
	pick := func(int) int { return 0 }
	p := pool.Format(least)
	counts(t, p, 1, 0, 0, 0, 0)
	p = one(t)
	counts(t, p, 0, 1, 3, 0, 15)
	makes(t, p, root(0), 3, 1, 0, 5)
	makes(t, p, slot(76, 0), 2, 0, 72, 0)
	makes(t, p, slot(76, 1), 2, 0, 0, 3)

	makes(t, p, root(0), 0, 0, 0, 2)
	makes(t, p, root(0), 256, 0, 0, 2)
	makes(t, p, root(0), 2, 3, 0, 1)
	makes(t, p, root(1), 1, 0, 0, 3)

	p = one(t)
	fine(t, p.WriteData(76, 0, 9), p.Fail(pick))
	reads(t, p, 76, 0, 0)
	fine(t, p.WriteData(76, 0, 9), p.Persist(76, 0, 1), p.Fail(pick))
	reads(t, p, 76, 0, 9)

	p = one(t)
	fine(t, p.StorePtr(76, 0, 76), p.SetRoot(0, 0))
	counts(t, p, 0, 0, 0, 1, 15)
	fine(t, p.Fail(pick))
	counts(t, p, 1, 0, 0, 0, 0)

	p = one(t)
	makes(t, p, slot(76, 0), 3, 1, 72, 0)
	ends(t, p, root(0), 0, 8)
	ends(t, p, slot(76, 0), 72, 0)
	ends(t, p, root(0), 76, 0)
	ends(t, p, root(0), 0, 6)

	p = one(t)
	fine(t, p.Tx(writes(76, 0, 5), writes(76, 1, 6)))
	if code := p.Tx(writes(76, 0, 7), writes(76, 9, 1)); code != api.ErrRange {
		t.Fatal(code)
	}
	fine(t, p.Fail(pick))
	reads(t, p, 76, 0, 5)

	p = pool.Format(least)
	makes(t, p, root(0), 60, 1, 64, 0)
	makes(t, p, slot(64, 0), 1, 0, 0, 9)
	ends(t, p, root(0), 64, 0)
	makes(t, p, root(0), 1, 0, 70, 0)
}
