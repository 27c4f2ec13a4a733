package pmtu

import (
	"math"
	"slices"
	"testing"

	"mosaic/api"
)

func TestNew(t *testing.T) {
	for entries := -3; entries <= 70; entries++ {
		for _, age := range []int64{1, 100, 1 << 40} {
			wants(t, api.Paths{Entries: entries, Age: age}, entries >= 1 && entries <= 64)
		}
	}
	for _, entries := range []int{math.MinInt, math.MinInt32, -64, 1 << 16, 1<<32 + 2, math.MaxInt} {
		wants(t, api.Paths{Entries: entries, Age: 100}, false)
	}
	for _, age := range []int64{math.MinInt64, -1 << 40, -1, 0, 1<<40 + 1, 1<<40 + 2, math.MaxInt64} {
		wants(t, api.Paths{Entries: 2, Age: age}, false)
	}
	for _, age := range []int64{1, 2, 1<<32 + 1, 1<<40 - 1, 1 << 40} {
		wants(t, api.Paths{Entries: 2, Age: age}, true)
	}
	wants(t, api.Paths{}, false)
}

// wants asks New for a cache, and whether nothing is in it.
func wants(t *testing.T, p api.Paths, taken bool) {
	t.Helper()
	c, e := New(p)
	if taken != (e == api.OK) || taken != (c != nil) || !taken && e != api.ErrArg {
		t.Errorf("P18.1: New(%v) = %v, %d", p, c, e)
		return
	}
	if taken {
		tells(t, c, &model{bounds: p})
	}
}

// hear is a Hear that is taken, whether the estimate falls, and what Get with 1500 tells behind it.
func hear(t *testing.T, c *Cache, dst api.Addr, mtu, length int, now int64, falls bool, is int) {
	t.Helper()
	fell, e := c.Hear(dst, 1500, mtu, length, now)
	if fell != falls || e != api.OK {
		t.Errorf("P18.1: Hear(%v, 1500, %d, %d, %d) = %v, %d; want %v", dst, mtu, length, now, fell, e, falls)
	}
	get(t, c, dst, 1500, is)
}

// get is a Get that is taken.
func get(t *testing.T, c *Cache, dst api.Addr, first, want int) {
	t.Helper()
	if n, e := c.Get(dst, first); n != want || e != api.OK {
		t.Errorf("P18.1: Get(%v, %d) = %d, %d; want %d", dst, first, n, e, want)
	}
}

// noGet is a Get that is refused.
func noGet(t *testing.T, c *Cache, dst api.Addr, first int) {
	t.Helper()
	if n, e := c.Get(dst, first); n != 0 || e != api.ErrArg {
		t.Errorf("P18.1: Get(%v, %d) = %d, %d; want 0, 1", dst, first, n, e)
	}
}

// tick is a Tick that is taken.
func tick(t *testing.T, c *Cache, now int64, want ...api.Addr) {
	t.Helper()
	if l, e := c.Tick(now); e != api.OK || !slices.Equal(l, want) {
		t.Errorf("P18.1: Tick(%d) = %v, %d; want %v", now, l, e, want)
	}
}

// has asks for the destinations with an entry.
func has(t *testing.T, c *Cache, want ...api.Addr) {
	t.Helper()
	if l := c.All(); !slices.Equal(l, want) {
		t.Errorf("P18.1: All() = %v; want %v", l, want)
	}
}

func TestExampleFalls(t *testing.T) {
	c, _ := made(t, 2, 100)
	d := four(1)
	get(t, c, d, 1500, 1500)
	hear(t, c, d, 576, 1500, 0, true, 576)
	get(t, c, d, 500, 500)
	hear(t, c, d, 576, 1500, 1, false, 576)
	hear(t, c, d, 1000, 1500, 1, false, 576)
	hear(t, c, d, 0, 570, 1, true, 508)
	hear(t, c, d, 20, 0, 1, true, 68)
	hear(t, c, d, 0, 0, 1, false, 68)
	has(t, c, d)
}

func TestExampleSix(t *testing.T) {
	c, _ := made(t, 2, 100)
	s := six(1)
	hear(t, c, s, 1279, 1500, 0, false, 1500)
	has(t, c)
	hear(t, c, s, 1280, 1500, 0, true, 1280)
	noGet(t, c, s, 1279)
	has(t, c, s)
}

func TestExampleRises(t *testing.T) {
	c, _ := made(t, 2, 100)
	d := four(1)
	hear(t, c, d, 576, 0, 0, true, 576)
	for _, x := range []struct {
		now  int64
		rose []api.Addr
		is   int
	}{{99, nil, 576}, {100, []api.Addr{d}, 1006}, {150, nil, 1006}, {500, []api.Addr{d}, 1280}, {600, []api.Addr{d}, 1492}} {
		tick(t, c, x.now, x.rose...)
		get(t, c, d, 1500, x.is)
		has(t, c, d)
	}
	tick(t, c, 700, d)
	get(t, c, d, 1500, 1500)
	has(t, c)
}

func TestExampleRoom(t *testing.T) {
	c, _ := made(t, 2, 100)
	d, e, s := four(1), four(2), six(1)
	hear(t, c, d, 1000, 0, 0, true, 1000)
	hear(t, c, e, 1000, 0, 1, true, 1000)
	hear(t, c, d, 900, 0, 2, true, 900)
	hear(t, c, s, 1400, 0, 3, true, 1400)
	has(t, c, d, s)
	get(t, c, e, 1500, 1500)
	get(t, c, d, 1500, 900)
}

func TestExampleRefused(t *testing.T) {
	for _, p := range []api.Paths{{Entries: 0, Age: 100}, {Entries: 65, Age: 100}, {Entries: 2, Age: 0}, {Entries: 2, Age: 1<<40 + 1}} {
		wants(t, p, false)
	}
	c, m := made(t, 2, 100)
	d := four(1)
	tick(t, c, 500)
	m.last = 500
	for _, x := range []move{{dst: d, first: 1500, mtu: 576, now: 499}, {tick: true, now: 499}} {
		if _, _, e := both(t, c, m, x); e != api.ErrArg {
			t.Errorf("P18.1: %+v is taken behind Tick(500)", x)
		}
	}
	for _, first := range []int{67, 65536} {
		noGet(t, c, d, first)
	}
	for _, a := range noAddresses() {
		noGet(t, c, a, 1500)
	}
}

// Each first from below the floor to above the greatest one, asked of a cache without and with an entry.
func TestGetAtEveryFirst(t *testing.T) {
	for _, dst := range []api.Addr{four(1), six(1)} {
		c, m := made(t, 1, 100)
		for _, mtu := range []int{65535, 65534, 2000, 1281, 1280, 500, 1} {
			both(t, c, m, move{dst: dst, first: 65535, mtu: mtu})
			for first := -2; first <= 65540; first++ {
				n, e := c.Get(dst, first)
				want, f := m.Get(dst, first)
				if n != want || e != f {
					t.Fatalf("P18.1: Get(%v, %d) = %d, %d; want %d, %d", dst, first, n, e, want, f)
				}
			}
		}
	}
}

// Each mtu up to 3000 and some above, and so each length with an mtu of 0, as the one message that a new cache hears.
func TestHearAtManyNumbers(t *testing.T) {
	for _, first := range []int{1280, 1281, 1500, 65535} {
		for _, dst := range []api.Addr{four(1), six(1)} {
			for n := -70; n <= 65600; n += 1 + max(0, n-3000)/400 {
				for _, x := range []move{{dst: dst, first: first, mtu: n, length: 1500}, {dst: dst, first: first, mtu: 0, length: n}} {
					c, m := made(t, 1, 1)
					both(t, c, m, x)
					got, e := c.Get(dst, first)
					if want, f := m.Get(dst, first); got != want || e != f {
						t.Fatalf("P18.1: behind Hear(%+v) Get is %d, %d; want %d, %d", x, got, e, want, f)
					}
				}
			}
		}
	}
}

// The length counts only over IPv4, and there only with an mtu of 0.
func TestLengthCountsWithoutMTU(t *testing.T) {
	for _, length := range []int{math.MinInt, -1, 0, 68, 69, 1280, 1500, 65535, math.MaxInt} {
		c, _ := made(t, 4, 100)
		hear(t, c, four(1), 576, length, 0, true, 576)
		hear(t, c, four(2), -1, length, 0, true, 68)
		hear(t, c, six(1), 0, length, 0, false, 1500)
		hear(t, c, six(1), 1300, length, 0, true, 1300)
		has(t, c, four(1), four(2), six(1))
	}
	c, _ := made(t, 4, 100)
	hear(t, c, four(1), 0, math.MaxInt, 0, false, 1500)
	hear(t, c, four(1), 0, 1500, 0, true, 1492)
	hear(t, c, four(1), 0, 1492, 0, true, 1280)
	hear(t, c, four(1), 0, math.MinInt, 0, true, 68)
}

// An estimate is held against what Get tells with the first that it is heard with, and that first is kept.
func TestFirstIsThatOfTheLastHear(t *testing.T) {
	d := four(1)
	c, m := made(t, 1, 100)
	for _, x := range []struct {
		move
		falls bool
	}{
		{move{dst: d, first: 9000, mtu: 5000}, true},
		{move{dst: d, first: 1500, mtu: 1500}, false},
		{move{dst: d, first: 1500, mtu: 4000}, false},
		{move{dst: d, first: 1500, mtu: 1499}, true},
	} {
		if fell, _, e := both(t, c, m, x.move); fell != x.falls || e != api.OK {
			t.Errorf("P18.1: Hear(%+v) = %v, %d", x.move, fell, e)
		}
	}
	get(t, c, d, 9000, 1499)
	tick(t, c, 100, d)
	has(t, c) // 2002 is above 1500, though below 9000
	get(t, c, d, 9000, 9000)

	c, _ = made(t, 1, 100)
	if fell, e := c.Hear(d, 9000, 1400, 0, 0); !fell || e != api.OK {
		t.Errorf("P18.1: Hear = %v, %d", fell, e)
	}
	hear(t, c, d, 1400, 0, 0, false, 1400) // passed over, its first too
	tick(t, c, 100, d)
	tick(t, c, 200, d)
	has(t, c, d)
	get(t, c, d, 9000, 2002)
}

// An entry goes as its estimate comes to its first, not only as it comes above it.
func TestGoesAtItsFirst(t *testing.T) {
	for _, x := range []struct {
		first int
		goes  bool
	}{{1491, true}, {1492, true}, {1493, false}, {65535, false}} {
		c, m := made(t, 1, 10)
		both(t, c, m, move{dst: four(1), first: x.first, mtu: 1280})
		both(t, c, m, move{tick: true, now: 10})
		if gone := len(c.All()) == 0; gone != x.goes {
			t.Errorf("P18.1: from 1280 to 1492 with the first %d: gone is %v", x.first, gone)
		}
		tells(t, c, m)
	}
	c, _ := made(t, 1, 10)
	c.Hear(four(1), 65535, 65534, 0, 0)
	has(t, c, four(1))
	tick(t, c, 10, four(1))
	has(t, c)
}

// The clock begins with each Hear that answers true, and with no other; a late tick lets it begin at that tick.
func TestClock(t *testing.T) {
	d := four(1)
	c, _ := made(t, 2, 100)
	hear(t, c, d, 600, 0, 0, true, 600)
	hear(t, c, d, 500, 0, 60, true, 500)
	hear(t, c, d, 500, 0, 90, false, 500)
	tick(t, c, 100)
	tick(t, c, 159)
	tick(t, c, 160, d)
	get(t, c, d, 1500, 508)
	tick(t, c, 160)
	tick(t, c, 1000, d) // once, however late
	get(t, c, d, 1500, 1006)
	tick(t, c, 1000)
	tick(t, c, 1099)
	tick(t, c, 1100, d)
	get(t, c, d, 1500, 1280)
}

// The greatest age and the last tick.
func TestGreatestTicks(t *testing.T) {
	d := four(1)
	c, m := made(t, 1, 1<<40)
	hear(t, c, d, 576, 0, 0, true, 576)
	tick(t, c, 1<<40-1)
	tick(t, c, 1<<40, d)
	get(t, c, d, 1500, 1006)
	tick(t, c, 1<<40)
	hear(t, c, d, 500, 0, 1<<40, true, 500)
	both(t, c, &model{bounds: m.bounds, last: 1 << 40, list: []record{{d, 500, 1500, 1 << 40}}}, move{tick: true, now: 1<<40 + 1})
	has(t, c, d)
}

// A message that is passed over moves the last now, a refused one does not.
func TestLastNow(t *testing.T) {
	d := four(1)
	c, m := made(t, 1, 100)
	both(t, c, m, move{dst: d, first: 1500, mtu: 1500, now: 40})
	both(t, c, m, move{dst: d, first: 1500, mtu: 576, now: 39})
	both(t, c, m, move{tick: true, now: 39})
	both(t, c, m, move{dst: six(1), first: 1500, mtu: 1279, now: 50})
	both(t, c, m, move{tick: true, now: 49})
	both(t, c, m, move{dst: d, first: 67, mtu: 20, now: 99})
	both(t, c, m, move{dst: api.Addr{V: 5}, first: 1500, mtu: 576, now: 99})
	if m.last != 50 {
		t.Fatalf("the last now is %d", m.last)
	}
	if fell, _, e := both(t, c, m, move{dst: d, first: 1500, mtu: 576, now: 50}); !fell || e != api.OK {
		t.Errorf("P18.1: a refused call moved the last now: %d", e)
	}
}

// Ticks, the same now and messages that are passed over leave the order of hearing as it is.
func TestOrderOfHearing(t *testing.T) {
	c, _ := made(t, 3, 10)
	hear(t, c, four(3), 600, 0, 0, true, 600)
	hear(t, c, four(1), 600, 0, 0, true, 600)
	hear(t, c, four(2), 600, 0, 0, true, 600)
	hear(t, c, four(3), 600, 0, 0, false, 600)
	hear(t, c, four(4), 1500, 0, 0, false, 1500)
	tick(t, c, 10, four(1), four(2), four(3))
	has(t, c, four(1), four(2), four(3))
	hear(t, c, four(5), 600, 0, 10, true, 600)
	has(t, c, four(1), four(2), four(5))
	hear(t, c, four(1), 500, 0, 10, true, 500)
	hear(t, c, four(6), 500, 0, 10, true, 500)
	has(t, c, four(1), four(5), four(6))
	tick(t, c, 20, four(1), four(5), four(6))
	hear(t, c, four(7), 500, 0, 20, true, 500)
	has(t, c, four(1), four(6), four(7))
}

// One heard of again, or that went and came back, is a new one to the order; where there is room none is pushed out.
func TestWentAndCameBack(t *testing.T) {
	c, _ := made(t, 2, 10)
	hear(t, c, four(1), 1495, 0, 0, true, 1495)
	hear(t, c, four(2), 600, 0, 1, true, 600)
	tick(t, c, 10, four(1))
	has(t, c, four(2))
	hear(t, c, four(1), 1495, 0, 10, true, 1495)
	has(t, c, four(1), four(2))
	hear(t, c, four(3), 1495, 0, 10, true, 1495)
	has(t, c, four(1), four(3))
}

// Destinations stand by V, then by B from the front, in All and in Tick.
func TestOrderOfTelling(t *testing.T) {
	want := []api.Addr{
		{V: 4}, {V: 4, B: [16]byte{1, 2, 3, 4}}, {V: 4, B: [16]byte{1, 2, 4, 3}}, {V: 4, B: [16]byte{200}},
		{V: 6}, {V: 6, B: [16]byte{15: 1}}, {V: 6, B: [16]byte{15: 255}}, {V: 6, B: [16]byte{14: 1}}, {V: 6, B: [16]byte{1, 2, 3, 4}}, {V: 6, B: [16]byte{255}},
	}
	g := source(182)
	for range 50 {
		c, m := made(t, 64, 10)
		for _, i := range mixed(&g, len(want)) {
			both(t, c, m, move{dst: want[i], first: 1500, mtu: 1300})
		}
		has(t, c, want...)
		tick(t, c, 10, want...)
		has(t, c, want...)
		tick(t, c, 20, want...)
		has(t, c)
	}
}

// mixed are the numbers below n, in some order.
func mixed(g *source, n int) []int {
	l := make([]int, n)
	for i := range l {
		j := g.below(i + 1)
		l[i], l[j] = l[j], i
	}
	return l
}
