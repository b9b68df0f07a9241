package pool_test

import "testing"

// script does so many calls, each in some way.
func (tr *trial) script(m *maker, calls int) {
	tr.t.Helper()
	for range calls {
		tr.do(m.next(ways), m.call())
	}
}

// Scripts of some forty calls, each done in some way, beside plain objects; power fails between them, and while the region is opened. What was formatted, or opened, has no garbage, and what is reached is there.
func TestP21_5Scripts(t *testing.T) {
	picks := pickers()
	for _, g := range few() {
		for seed := range 40 {
			m := &maker{formatted(t, g), chance(seed)}
			census(t, g, m.tr.pool, false)
			for range 4 {
				m.tr.script(m, 30+m.next(20))
				census(t, g, m.tr.pool, true)
				switch pick := picks[m.next(len(picks))]; m.next(4) {
				case 0:
					m.tr = m.tr.again()
					m.tr.right("behind opening")
				case 1:
					m.tr.fails(pick, m.next(total(g)+60), m.next(total(g)+60)-1)
				default:
					m.tr.fails(pick)
				}
			}
		}
	}
}

// The same calls, each in another way, make the same.
func TestP21_2SameEachWay(t *testing.T) {
	for seed, g := range few() {
		var l [ways]*trial
		for way := range l {
			l[way] = formatted(t, g)
		}
		m := &maker{l[0], chance(seed + 300)}
		for range 150 {
			c := m.call()
			for way, tr := range l {
				tr.do(way, c)
			}
			for _, tr := range l[1:] {
				like(t, c, tr.pool, l[0].hand)
			}
		}
	}
}

// A long script of one pool.
func TestP21_5Long(t *testing.T) {
	for seed, g := range few() {
		m := &maker{formatted(t, g), chance(seed + 400)}
		for range 12 {
			m.tr.script(m, 120)
			m.tr.fails(pickers()[0])
		}
	}
}
