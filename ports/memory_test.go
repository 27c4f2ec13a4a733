package ports

import (
	"testing"

	"mosaic/api"
)

// What All tells is the caller's own: written over, and its room too, nothing that is told later changes.
func TestAnswersAreTheCallersOwn(t *testing.T) {
	g := source(207)
	for range 200 {
		n := 1 + g.below(32)
		p, m := made(t, n), newModel(n)
		for range 60 {
			if g.once(4) {
				bothClose(t, p, m, g.number(m))
			} else {
				bothBind(t, p, m, g.address(), g.port())
			}
			first, second := p.All(), p.All()
			scribble(first)
			for i, n := range second {
				if n == -7 {
					t.Fatalf("P20.1: two answers of All() share their element %d", i)
				}
			}
			scribble(second)
			alike(t, p, m)
		}
	}
}

// scribble writes over a list and the room behind it.
func scribble(l []int) {
	l = l[:cap(l)]
	for i := range l {
		l[i] = -7
	}
}

// disturb asks what may change nothing: looks, and calls that are refused.
func disturb(t *testing.T, g *source, p *Ports) {
	t.Helper()
	bad := mayNot()
	refuses(t, p, bad[g.below(len(bad))], g.port(), api.ErrArg)
	wild := wildPorts()
	refuses(t, p, addresses[g.below(6)], wild[g.below(len(wild))], api.ErrArg)
	unbound(t, p, -1, 0, 1<<40)
	for _, n := range p.All() {
		a, port, _ := p.At(n)
		refuses(t, p, a, port, api.ErrInUse)
	}
	if len(p.All()) == p.most {
		refuses(t, p, g.stranger(), 0, api.ErrSpent)
		refuses(t, p, g.stranger(), 1+g.below(65535), api.ErrSpent)
	}
	tell(p)
}

// stranger is an address to which nothing is bound.
func (s *source) stranger() api.Addr { return six(200, byte(s.below(256))) }

// One to which refused calls and looks came answers as one to which none came.
func TestRefusedAndAskedChangeNothing(t *testing.T) {
	g := source(208)
	full := 0
	for range 200 {
		n := 1 + g.below(12)
		p, quiet := made(t, n), made(t, n)
		for range 40 {
			disturb(t, &g, p)
			if g.once(3) {
				k := g.below(40)
				if e, f := p.Close(k), quiet.Close(k); e != f {
					t.Fatalf("P20.1: Close(%d) = %d; undisturbed %d", k, e, f)
				}
				continue
			}
			a, port := g.address(), g.port()
			k, got, e := p.Bind(a, port)
			if i, want, f := quiet.Bind(a, port); k != i || got != want || e != f {
				t.Fatalf("P20.1: Bind(%v, %d) = %d, %d, %d; undisturbed %d, %d, %d", a, port, k, got, e, i, want, f)
			}
			if len(p.All()) == n {
				full++
			}
		}
		if !tell(p).equals(tell(quiet)) {
			t.Fatalf("P20.1: %+v; undisturbed %+v", tell(p), tell(quiet))
		}
	}
	if full < 500 {
		t.Errorf("full only %d times", full)
	}
}

// Those that take turns answer as their models do, each for itself.
func TestPortsAreApart(t *testing.T) {
	g := source(209)
	for range 60 {
		var many [4]*Ports
		var models [4]*model
		for i := range many {
			n := 1 + g.below(8)
			many[i], models[i] = made(t, n), newModel(n)
		}
		for range 200 {
			i := g.below(4)
			if g.once(3) {
				bothClose(t, many[i], models[i], g.number(models[i]))
			} else {
				bothBind(t, many[i], models[i], g.address(), g.port())
			}
		}
		for i := range many {
			alike(t, many[i], models[i])
		}
	}
}

// What is kept hangs on how many are bound, not on how many ever were.
func TestLittleIsKept(t *testing.T) {
	p := made(t, 32)
	for i := range 200000 {
		if _, _, e := p.Bind(ten, 0); e != api.OK {
			t.Fatalf("P20.1: Bind %d = %d", i, e)
		}
		if l := p.All(); len(l) == 32 {
			closes(t, p, l[i%32])
		}
	}
	if len(p.bound) != 31 || cap(p.bound) > 64 {
		t.Errorf("%d are kept, in room for %d", len(p.bound), cap(p.bound))
	}
}
