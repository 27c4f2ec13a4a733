package ports

import (
	"slices"
	"testing"

	"mosaic/api"
)

// wander makes a Ports of n sockets with some of them bound, as a short script leaves it.
func (s *source) wander(t *testing.T, n, steps int) *Ports {
	t.Helper()
	p := made(t, n)
	for range steps {
		if s.once(3) {
			p.Close(s.below(steps) + 1)
			continue
		}
		p.Bind(s.address(), s.port())
	}
	return p
}

// whoHas tells of All and At alone which sockets have an end.
func whoHas(t *testing.T, p *Ports, e end) []int {
	t.Helper()
	var l []int
	for _, n := range p.All() {
		a, port, f := p.At(n)
		if f != api.OK {
			t.Fatalf("P20.2: All() tells %d, At refuses it: %d", n, f)
		}
		if a == e.a && port == e.port {
			l = append(l, n)
		}
	}
	return l
}

// TestWhoseItIs holds Find against what At tells of each socket.
func TestWhoseItIs(t *testing.T) {
	g := source(202)
	own, others, none := 0, 0, 0
	for range 400 {
		p := g.wander(t, 1+g.below(32), g.below(60))
		for _, a := range addresses {
			for _, port := range portsOf {
				just, any := whoHas(t, p, end{a, port}), whoHas(t, p, end{api.Addr{V: a.V}, port})
				if len(just) > 1 {
					t.Fatalf("P20.2: %v and %d are bound by %v", a, port, just)
				}
				n := p.Find(a, port)
				switch {
				case len(just) == 1:
					own++
					if n != just[0] {
						t.Fatalf("P20.2: Find(%v, %d) = %d; %v has it", a, port, n, just)
					}
				case len(any) == 1:
					others++
					if n != any[0] {
						t.Fatalf("P20.2: Find(%v, %d) = %d; %v has any", a, port, n, any)
					}
				default:
					none++
					if n != 0 {
						t.Fatalf("P20.2: Find(%v, %d) = %d; none has it", a, port, n)
					}
				}
			}
		}
	}
	if min(own, others, none) < 1000 {
		t.Errorf("too few of a kind: %d, %d, %d", own, others, none)
	}
}

// What is given for the port 0 is free, not below 49152, and no lower one was free.
func TestGivenPorts(t *testing.T) {
	g := source(203)
	given := 0
	for range 2000 {
		p := g.wander(t, 2+g.below(31), g.below(60))
		a := addresses[g.below(6)]
		var taken []int
		for _, n := range p.All() {
			if b, port, _ := p.At(n); b == a {
				taken = append(taken, port)
			}
		}
		n, port, e := p.Bind(a, 0)
		if e != api.OK {
			continue
		}
		given++
		if port < 49152 || port > 65535 || slices.Contains(taken, port) {
			t.Fatalf("P20.2: Bind(%v, 0) = %d, %d, where it has %v", a, n, port, taken)
		}
		for low := 49152; low < port; low++ {
			if !slices.Contains(taken, low) {
				t.Fatalf("P20.1: Bind(%v, 0) = %d, %d, where %d is free", a, n, port, low)
			}
		}
	}
	if given < 500 {
		t.Errorf("only %d were given", given)
	}
}

// TestNumbersRise keeps every number that was ever told, through long scripts.
func TestNumbersRise(t *testing.T) {
	g := source(204)
	for range 50 {
		most := 1 + g.below(32)
		p := made(t, most)
		last, closed := 0, map[int]int{}
		for range 1000 {
			if g.once(3) {
				n := g.below(last + 2)
				if p.Close(n) == api.OK {
					closed[n]++
				}
			} else if n, _, e := p.Bind(g.address(), g.port()); e == api.OK {
				if n != last+1 {
					t.Fatalf("P20.3: Bind = %d behind %d", n, last)
				}
				last = n
			}
			l := p.All()
			if len(l) > most || len(l) != last-len(closed) {
				t.Fatalf("P20.3: %d of %d are bound, %d were, %d are closed", len(l), most, last, len(closed))
			}
			for i, n := range l {
				if closed[n] != 0 || n < 1 || n > last || i > 0 && l[i-1] >= n {
					t.Fatalf("P20.3: All() = %v", l)
				}
			}
		}
		for n, times := range closed {
			if times != 1 {
				t.Fatalf("P20.3: %d was closed %d times", n, times)
			}
			unbound(t, p, n)
		}
	}
}

// told is all that Find, At and All tell of what the scripts are about.
type told struct {
	all   []int
	found []int
	ends  []end
}

func tell(p *Ports) told {
	x := told{all: p.All()}
	for _, a := range addresses {
		for _, port := range portsOf {
			x.found = append(x.found, p.Find(a, port))
		}
	}
	for n := range 80 {
		a, port, _ := p.At(n)
		x.ends = append(x.ends, end{a, port})
	}
	return x
}

func (x told) equals(y told) bool {
	return slices.Equal(x.all, y.all) && slices.Equal(x.found, y.found) && slices.Equal(x.ends, y.ends)
}

// TestCloseTakesJustThis closes what Bind gave, at once and behind others that came and went between.
func TestCloseTakesJustThis(t *testing.T) {
	g := source(205)
	taken := 0
	for range 3000 {
		p := g.wander(t, 1+g.below(32), g.below(40))
		was := tell(p)
		var came []int
		for range 1 + g.below(5) {
			if n, _, e := p.Bind(g.address(), g.port()); e == api.OK {
				came = append(came, n)
			}
		}
		taken += len(came)
		for len(came) > 0 {
			i := g.below(len(came))
			closes(t, p, came[i])
			came = slices.Delete(came, i, i+1)
		}
		if !tell(p).equals(was) {
			t.Fatalf("P20.4: %+v; was %+v", tell(p), was)
		}
	}
	if taken < 2000 {
		t.Errorf("only %d were bound", taken)
	}
}

// What is closed is free: the same Bind is taken again, with the same port and the next number.
func TestClosedIsFree(t *testing.T) {
	g := source(206)
	for range 1000 {
		p := g.wander(t, 1+g.below(32), g.below(60))
		l := p.All()
		if len(l) == 0 {
			continue
		}
		socket := l[g.below(len(l))]
		a, port, _ := p.At(socket)
		refuses(t, p, a, port, api.ErrInUse)
		closes(t, p, socket)
		next, got, e := p.Bind(a, port)
		if e != api.OK || got != port || next <= l[len(l)-1] || p.Find(a, port) != next {
			t.Fatalf("P20.4: Bind(%v, %d) behind Close = %d, %d, %d", a, port, next, got, e)
		}
	}
}
