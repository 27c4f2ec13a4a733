package pmtu

import (
	"slices"
	"testing"

	"mosaic/api"
)

// look is what Get tells of each destination with each first; 0: it refuses.
type look map[api.Addr][]int

func looked(c *Cache) look {
	l := look{}
	for _, dst := range destinations() {
		for _, first := range firsts() {
			n, _ := c.Get(dst, first)
			l[dst] = append(l[dst], n)
		}
	}
	return l
}

// noneFell says whether no answer for a destination is below what it was.
func noneFell(was, is []int) bool {
	for i := range was {
		if is[i] < was[i] {
			return false
		}
	}
	return true
}

// without are the answers of a cache that has no entry for a destination.
func without(t *testing.T, dst api.Addr) []int {
	c, _ := made(t, 1, 1)
	return looked(c)[dst]
}

// TestFalls asks behind each move which answers fell, and what else changed.
func TestFalls(t *testing.T) {
	g := source(183)
	fallen, out := 0, 0
	for range 300 {
		c, m := made(t, 1+g.below(4), int64(1+g.below(60)))
		for range 60 {
			x := g.move(m)
			was, had := looked(c), c.All()
			before, _ := c.Get(x.dst, x.first)
			fell, _, e := both(t, c, m, x)
			after, _ := c.Get(x.dst, x.first)
			if fell {
				fallen++
				if after >= before {
					t.Fatalf("P18.3: Hear(%+v) fell from %d to %d", x, before, after)
				}
			}
			for dst, is := range looked(c) {
				switch {
				case dst == x.dst && fell:
				case !noneFell(was[dst], is):
					t.Fatalf("P18.3: %+v let an answer of %v fall", x, dst)
				case x.tick && e == api.OK:
				case slices.Equal(was[dst], is):
				case fell && slices.Contains(had, dst) && !slices.Contains(c.All(), dst) && slices.Equal(is, without(t, dst)):
					out++
				default:
					t.Fatalf("P18.3: %+v changed an answer of %v", x, dst)
				}
			}
		}
	}
	if fallen < 1000 || out < 500 {
		t.Errorf("only %d fell, and %d were pushed out", fallen, out)
	}
}

// TestRises lets caches of any kind be for twelve ticks.
func TestRises(t *testing.T) {
	g := source(184)
	for range 400 {
		age := int64(1 + g.below(60))
		c, m := made(t, 1+g.below(8), age)
		for range 40 {
			both(t, c, m, g.move(m))
		}
		now := m.last + int64(g.below(2))
		for range 12 {
			was := looked(c)
			both(t, c, m, move{tick: true, now: now})
			for dst, is := range looked(c) {
				if !noneFell(was[dst], is) {
					t.Fatalf("P18.4: a tick let an answer of %v fall", dst)
				}
			}
			now += age + int64(g.below(3)*g.below(50))
		}
		if l := c.All(); len(l) != 0 {
			t.Fatalf("P18.4: behind twelve ticks there are %v", l)
		}
		for _, dst := range destinations() {
			if is := looked(c)[dst]; !slices.Equal(is, without(t, dst)) {
				t.Fatalf("P18.4: Get of %v tells %v", dst, is)
			}
		}
	}
}

// From the floor up to the greatest first it takes eleven steps, each an age long.
func TestLongestRise(t *testing.T) {
	c, m := made(t, 1, 7)
	d := four(1)
	both(t, c, m, move{dst: d, first: 65535, mtu: 1})
	for i, want := range []int{296, 508, 1006, 1280, 1492, 2002, 4352, 8166, 17914, 32000, 65535} {
		tick(t, c, int64(7*i+6))
		tick(t, c, int64(7*i+7), d)
		get(t, c, d, 65535, want)
	}
	has(t, c)
}

// TestRoom knows of each destination its last Hear that answered true, and so which one has to go.
func TestRoom(t *testing.T) {
	g := source(185)
	pushed := 0
	for range 300 {
		entries := 1 + g.below(5)
		c, m := made(t, entries, int64(5+g.below(200)))
		heard := map[api.Addr]int{}
		for i := range 80 {
			x, had := g.move(m), c.All()
			fell, _, _ := both(t, c, m, x)
			all := c.All()
			if len(all) > entries {
				t.Fatalf("P18.5: %d of %d entries", len(all), entries)
			}
			if !fell {
				continue
			}
			heard[x.dst] = i
			if slices.Contains(had, x.dst) || len(had) < entries {
				continue
			}
			pushed++
			oldest := slices.MinFunc(had, func(a, b api.Addr) int { return heard[a] - heard[b] })
			want := slices.DeleteFunc(had, func(a api.Addr) bool { return a == oldest })
			if want = sorted(append(want, x.dst)); !slices.Equal(all, want) {
				t.Fatalf("P18.5: All() = %v; want %v", all, want)
			}
		}
	}
	if pushed < 1000 {
		t.Errorf("only %d were pushed out", pushed)
	}
}
