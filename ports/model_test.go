package ports

import (
	"slices"
	"testing"

	"mosaic/api"
)

// source is a plain generator, so that every run sees the same inputs.
type source uint64

func (s *source) next() uint64 {
	*s ^= *s << 13
	*s ^= *s >> 7
	*s ^= *s << 17
	return uint64(*s)
}

func (s *source) below(n int) int { return int((s.next() >> 11) % uint64(n)) }

// once in n times it says yes.
func (s *source) once(n int) bool { return s.below(n) == 0 }

// end is an address and a port.
type end struct {
	a    api.Addr
	port int
}

// model is the chapter's words over all that was ever bound: the socket n is ends[n-1], and who has an end is asked of a map.
type model struct {
	most int
	ends []end
	owns map[end]int
}

func newModel(n int) *model { return &model{most: n, owns: map[end]int{}} }

// mayHave says whether a socket may be bound to an address, by the kinds of DOC.md's words.
func mayHave(a api.Addr) bool {
	b := a.B
	switch a.V {
	case 4:
		for _, x := range b[4:] {
			if x != 0 {
				return false
			}
		}
		return b[0] != 127 && (b[0] < 224 || b[0] > 239) && !slices.Equal(b[:4], []byte{255, 255, 255, 255})
	case 6:
		return b[0] != 255 && b != [16]byte{15: 1}
	}
	return false
}

func (m *model) bind(a api.Addr, port int) (int, int, api.Errno) {
	if !mayHave(a) || port < 0 || port > 65535 {
		return 0, 0, api.ErrArg
	}
	if port > 0 && m.owns[end{a, port}] != 0 {
		return 0, 0, api.ErrInUse
	}
	if len(m.owns) >= m.most {
		return 0, 0, api.ErrSpent
	}
	if port == 0 {
		for port = 49152; m.owns[end{a, port}] != 0; port++ {
		}
	}
	m.ends = append(m.ends, end{a, port})
	m.owns[end{a, port}] = len(m.ends)
	return len(m.ends), port, api.OK
}

func (m *model) find(a api.Addr, port int) int {
	if n := m.owns[end{a, port}]; n != 0 {
		return n
	}
	return m.owns[end{api.Addr{V: a.V}, port}]
}

func (m *model) at(n int) (api.Addr, int, api.Errno) {
	if n < 1 || n > len(m.ends) || m.owns[m.ends[n-1]] != n {
		return api.Addr{}, 0, api.ErrArg
	}
	return m.ends[n-1].a, m.ends[n-1].port, api.OK
}

func (m *model) close(n int) api.Errno {
	a, port, e := m.at(n)
	if e == api.OK {
		delete(m.owns, end{a, port})
	}
	return e
}

func (m *model) all() []int {
	var l []int
	for _, n := range m.owns {
		l = append(l, n)
	}
	slices.Sort(l)
	return l
}

// bothBind binds on the program's side and on the model's, and holds the answers against each other.
func bothBind(t *testing.T, p *Ports, m *model, a api.Addr, port int) api.Errno {
	t.Helper()
	n, got, e := p.Bind(a, port)
	if k, want, f := m.bind(a, port); n != k || got != want || e != f {
		t.Fatalf("P20.1: Bind(%v, %d) = %d, %d, %d; want %d, %d, %d", a, port, n, got, e, k, want, f)
	}
	return e
}

func bothClose(t *testing.T, p *Ports, m *model, n int) api.Errno {
	t.Helper()
	e := p.Close(n)
	if f := m.close(n); e != f {
		t.Fatalf("P20.1: Close(%d) = %d; want %d", n, e, f)
	}
	return e
}

func bothFind(t *testing.T, p *Ports, m *model, a api.Addr, port int) int {
	t.Helper()
	n := p.Find(a, port)
	if k := m.find(a, port); n != k {
		t.Fatalf("P20.1: Find(%v, %d) = %d; want %d", a, port, n, k)
	}
	return n
}

func bothAt(t *testing.T, p *Ports, m *model, n int) {
	t.Helper()
	a, port, e := p.At(n)
	if b, q, f := m.at(n); a != b || port != q || e != f {
		t.Fatalf("P20.1: At(%d) = %v, %d, %d; want %v, %d, %d", n, a, port, e, b, q, f)
	}
}

// alike asks all that may be asked of the addresses and ports of the scripts.
func alike(t *testing.T, p *Ports, m *model) {
	t.Helper()
	if l, want := p.All(), m.all(); !slices.Equal(l, want) {
		t.Fatalf("P20.1: All() = %v; want %v", l, want)
	}
	for n := -1; n <= len(m.ends)+1; n++ {
		bothAt(t, p, m, n)
	}
	for _, a := range addresses {
		for _, port := range portsOf {
			bothFind(t, p, m, a, port)
		}
	}
}

// addresses and portsOf are few, so that scripts come back to them; the last ones of both are none.
var (
	addresses = []api.Addr{any4, any6, ten, four(10, 0, 0, 2), six(32, 1), {V: 6, B: ten.B}, six(0, 1), four(127, 0, 0, 1), {V: 5}, {V: 4, B: [16]byte{10, 0, 0, 1, 1}}, {}}
	portsOf   = []int{1, 53, 49151, 49152, 49153, 49154, 65535, 0, 65536, -1}
)

func (s *source) address() api.Addr {
	if s.once(10) {
		return addresses[s.below(len(addresses))]
	}
	return addresses[s.below(6)]
}

func (s *source) port() int {
	switch s.below(10) {
	case 0:
		return portsOf[s.below(len(portsOf))]
	case 1, 2, 3:
		return 0
	}
	return portsOf[s.below(6)]
}

// number is mostly of one that is bound.
func (s *source) number(m *model) int {
	if l := m.all(); len(l) > 0 && !s.once(4) {
		return l[s.below(len(l))]
	}
	return s.below(len(m.ends)+3) - 1
}

// count is how often a script came to what it is there for.
type count struct {
	bound, given, wrong, used, spent, closed, none, own, any, nobody int
}

func (c *count) least(t *testing.T, n int) {
	t.Helper()
	if min(c.bound, c.given, c.wrong, c.used, c.spent, c.closed, c.none, c.own, c.any, c.nobody) < n {
		t.Errorf("too few of a kind: %+v", *c)
	}
}

func (c *count) bind(port int, e api.Errno) {
	switch {
	case e == api.ErrArg:
		c.wrong++
	case e == api.ErrInUse:
		c.used++
	case e == api.ErrSpent:
		c.spent++
	case port == 0:
		c.given++
	default:
		c.bound++
	}
}

func (c *count) close(e api.Errno) {
	if e == api.OK {
		c.closed++
		return
	}
	c.none++
}

func (c *count) find(m *model, a api.Addr, n int) {
	switch {
	case n == 0:
		c.nobody++
	case m.ends[n-1].a == a:
		c.own++
	default:
		c.any++
	}
}

// TestModel holds every answer of long mixed scripts against the model's.
func TestModel(t *testing.T) {
	g := source(20)
	var c count
	for run := range 600 {
		n := 1 + g.below(8)
		if run%4 == 0 {
			n = 32 - g.below(2)
		}
		p, m := made(t, n), newModel(n)
		// Some scripts mostly bind, in some most sockets are soon closed.
		rare := 1 + g.below(4)
		for range 150 {
			if a, port := g.address(), g.port(); !g.once(1 + rare) {
				c.bind(port, bothBind(t, p, m, a, port))
			} else {
				c.close(bothClose(t, p, m, g.number(m)))
			}
			a := g.address()
			c.find(m, a, bothFind(t, p, m, a, g.port()))
			bothAt(t, p, m, g.number(m))
			if g.once(8) {
				alike(t, p, m)
			}
		}
		alike(t, p, m)
	}
	c.least(t, 1000)
}

// step is one call of a short script.
type step struct {
	end
	closed int // above 0: the socket that is closed
}

// shortSteps bind to a few ends, the first of which is also given out, and close what may be bound.
var shortSteps = []step{
	{end: end{ten, 49152}}, {end: end{ten, 49153}}, {end: end{ten, 0}}, {end: end{any4, 49152}}, {end: end{any4, 0}}, {end: end{any6, 0}},
	{closed: 1}, {closed: 2}, {closed: 3}, {closed: 4},
}

// TestEveryShortScript goes through all scripts of five of these steps.
func TestEveryShortScript(t *testing.T) {
	const length = 5
	scripts := 1
	for range length {
		scripts *= len(shortSteps)
	}
	for i := range 2 * scripts {
		most := 2 + i/scripts
		p, m := made(t, most), newModel(most)
		rest := i % scripts
		for range length {
			x := shortSteps[rest%len(shortSteps)]
			rest /= len(shortSteps)
			if x.closed > 0 {
				bothClose(t, p, m, x.closed)
			} else {
				bothBind(t, p, m, x.a, x.port)
			}
		}
		if !slices.Equal(p.All(), m.all()) {
			t.Fatalf("P20.1: script %d: All() = %v; want %v", i, p.All(), m.all())
		}
		for _, x := range shortSteps {
			bothFind(t, p, m, x.a, x.port)
			bothAt(t, p, m, x.closed)
		}
	}
}
