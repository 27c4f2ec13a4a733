package pmtu

import (
	"math"
	"slices"
	"testing"

	"mosaic/api"
)

// scribble writes over a list and the room behind it.
func scribble(l []api.Addr) {
	l = l[:cap(l)]
	for i := range l {
		l[i] = api.Addr{V: 5, B: [16]byte{0xa5}}
	}
}

// What is answered is the caller's own: written over, nothing that is told later changes.
func TestAnswersAreTheCallersOwn(t *testing.T) {
	g := source(186)
	for range 300 {
		c, m := made(t, 1+g.below(8), int64(1+g.below(60)))
		for range 60 {
			_, rose, _ := both(t, c, m, g.move(m))
			l := c.All()
			scribble(rose)
			if !slices.Equal(l, m.All()) {
				t.Fatalf("P18.6: All() = %v shares with Tick's answer", l)
			}
			scribble(l)
			if l = c.All(); !slices.Equal(l, m.All()) {
				t.Fatalf("P18.6: All() = %v; want %v", l, m.All())
			}
		}
		tells(t, c, m)
	}
}

// disturb asks what may change nothing: looks, and moves that are refused.
func disturb(t *testing.T, g *source, c *Cache, m *model) {
	for range g.below(4) {
		x := g.move(m)
		g.spoil(&x, m)
		if !x.tick || m.refuses(x.now) {
			if _, _, e := both(t, c, m, x); e != api.OK {
				continue
			}
			t.Fatalf("P18.6: %+v is taken", x)
		}
	}
	c.All()
	for _, dst := range append(destinations(), noAddresses()...) {
		c.Get(dst, g.number())
	}
}

// A cache to which refused calls and looks came answers as one to which none came.
func TestRefusedAndAskedChangeNothing(t *testing.T) {
	g := source(187)
	for range 300 {
		entries, age := 1+g.below(5), int64(1+g.below(60))
		c, m := made(t, entries, age)
		quiet, n := made(t, entries, age)
		for range 50 {
			disturb(t, &g, c, m)
			x := g.move(m)
			if _, _, e := both(t, c, m, x); e == api.OK {
				both(t, quiet, n, x)
			}
		}
		tells(t, c, n)
		tells(t, quiet, m)
	}
}

// Caches that take turns answer as their models do, each for itself.
func TestCachesAreApart(t *testing.T) {
	g := source(188)
	for range 100 {
		var caches [4]*Cache
		var models [4]*model
		for i := range caches {
			caches[i], models[i] = made(t, 1+g.below(5), int64(1+g.below(60)))
		}
		for range 100 {
			i := g.below(4)
			both(t, caches[i], models[i], g.move(models[i]))
			i = g.below(4)
			tells(t, caches[i], models[i])
		}
	}
}

// The same calls on new caches give the same answers, whatever the order of a map is.
func TestOneOutcome(t *testing.T) {
	play := func() (out [][]api.Addr) {
		g := source(189)
		c, m := made(t, 5, 40)
		for range 400 {
			_, rose, _ := both(t, c, m, g.move(m))
			out = append(out, rose, c.All())
		}
		return out
	}
	want := play()
	for range 10 {
		if got := play(); !slices.EqualFunc(got, want, slices.Equal[[]api.Addr]) {
			t.Fatal("P18.6: two runs of one script differ")
		}
	}
}

// Each argument at its wildest, all of them with each other: no call panics, and every one is as the model's.
func TestWildArguments(t *testing.T) {
	wild := []int{math.MinInt, math.MinInt + 1, -1, 0, 1, 68, 1280, 65535, 65536, math.MaxInt - 1, math.MaxInt}
	nows := []int64{math.MinInt64, -1, 0, 5, 1 << 40, 1<<40 + 1, math.MaxInt64}
	for _, dst := range append(noAddresses(), four(1), six(1)) {
		for _, first := range wild {
			for _, now := range nows {
				c, m := made(t, 1, 1)
				for _, mtu := range wild {
					for _, length := range wild {
						both(t, c, m, move{dst: dst, first: first, mtu: mtu, length: length, now: now})
					}
				}
				both(t, c, m, move{tick: true, now: now})
				if l := c.All(); !slices.Equal(l, m.All()) {
					t.Fatalf("P18.1: All() = %v; want %v", l, m.All())
				}
			}
		}
	}
}

// What is kept hangs on the entries, not on how many destinations were heard of.
func TestLittleIsKept(t *testing.T) {
	c, _ := made(t, 3, 1000)
	for i := range 20000 {
		dst := api.Addr{V: 6, B: [16]byte{0: 32, 14: byte(i >> 8), 15: byte(i)}}
		if fell, e := c.Hear(dst, 1500, 1300, 0, int64(i/100)); !fell || e != api.OK {
			t.Fatalf("Hear %d = %v, %d", i, fell, e)
		}
	}
	if len(c.paths) != 3 {
		t.Errorf("P18.6: %d are kept", len(c.paths))
	}
}
