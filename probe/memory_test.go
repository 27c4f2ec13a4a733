package probe

import (
	"math"
	"testing"

	"mosaic/api"
)

// A refused call, and a question, change nothing that a later call tells.
func TestRefusedAndAskedChangeNothing(t *testing.T) {
	g := source(2891)
	for range 2000 {
		c := g.probing()
		p, quiet := paired(t, c), made(t, c)
		for range 80 {
			for range g.below(4) {
				refusedAt(t, p.p, p.m.number, g.bytes(p.m), pick(&g, p.m.now-1, -1, end+1, math.MinInt64, math.MaxInt64))
				p.p.Size()
				p.p.State()
			}
			k := g.call(p.m)
			if r, want := p.do(t, k), quiet.does(k); r != want {
				t.Fatalf("%+v: %+v; without refused calls %+v", k, r, want)
			}
		}
	}
}

// Paths that take turns answer as their models do, each for itself.
func TestPathsAreApart(t *testing.T) {
	g := source(2892)
	for range 300 {
		var pairs [4]pair
		c := g.probing()
		for i := range pairs {
			pairs[i] = paired(t, c)
		}
		for range 400 {
			p := pairs[g.below(4)]
			p.do(t, g.call(p.m))
		}
	}
}

// A path is as large as it was, however many calls came ahead.
func TestNothingIsKept(t *testing.T) {
	p := made(t, api.Probing{V: 4, Base: 68, Most: 65535, Tries: 3, Losses: 5, Wait: 1, Raise: 1})
	g, now := source(2893), int64(0)
	if n := testing.AllocsPerRun(20000, func() {
		now += int64(g.below(3))
		size, number, _ := p.Next(now)
		switch {
		case number == 0:
		case g.once(3):
			p.Acked(number, now)
		case g.once(2):
			p.TooBig(number, size-1-g.below(40), now)
		}
		p.Got(p.Size(), now)
		p.Lost(p.Size(), now)
	}); n != 0 {
		t.Errorf("a call takes new memory %v times", n)
	}
}

// No arguments make a call panic, whatever came ahead.
func TestTotal(t *testing.T) {
	g := source(2894)
	numbers := []int{math.MinInt, -1, 0, 1, 2, 67, 68, 1279, 1280, 65535, 65536, math.MaxInt}
	ticks := []int64{math.MinInt64, -1, 0, 1, 10, end - 1, end, end + 1, math.MaxInt64}
	for range 3000 {
		p := wandered(t, &g)
		for range 60 {
			p.do(t, call{g.below(callKinds), pick(&g, numbers...), pick(&g, numbers...), pick(&g, ticks...)})
		}
	}
}
