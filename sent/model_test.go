package sent

import (
	"bytes"
	"testing"

	"mosaic/api"
	"mosaic/ip4"
	"mosaic/ip6"
)

// source is a plain generator, so that every run sees the same inputs.
type source uint64

func (s *source) next() uint64 {
	*s ^= *s << 13
	*s ^= *s >> 7
	*s ^= *s << 17
	return uint64(*s)
}

func (s *source) below(n int) int { return int((s.next() >> 11) % uint64(n)) }

// once in n times it says yes.
func (s *source) once(n int) bool { return s.below(n) == 0 }

func four(id uint32, data string) api.Packet {
	return api.Packet{V: 4, Src: api.Addr{V: 4, B: [16]byte{10, 0, 0, 1}}, Dst: api.Addr{V: 4, B: [16]byte{10, 0, 0, 2}}, Proto: 17, TTL: 64, ID: id, Data: []byte(data)}
}

func six(data string) api.Packet {
	p := four(0, data)
	p.V, p.Src.V, p.Dst.V = 6, 6, 6
	return p
}

func with(p api.Packet, change func(*api.Packet)) api.Packet {
	p.Opts, p.Data = bytes.Clone(p.Opts), bytes.Clone(p.Data)
	change(&p)
	return p
}

// headed is p as the first fragment of one that was cut; of version 4 nothing tells.
func headed(p api.Packet, id uint32) api.Packet {
	return with(p, func(p *api.Packet) { p.Frag, p.ID = true, id })
}

// note is what a call of Note was handed.
type note struct {
	p   api.Packet
	cut bool
	id  uint32
}

// model is the chapter's words over all that was ever noted.
type model struct {
	n   int
	all []note
}

func (m *model) last() []note { return m.all[max(0, len(m.all)-m.n):] }

func (m *model) Len() int { return len(m.last()) }

func (m *model) Note(p api.Packet, cut bool, id uint32) api.Errno {
	uncut := (ip4.Right(p) || ip6.Right(p)) && p.Off == 0 && !p.More && !p.Frag
	if !uncut || cut && p.V == 4 {
		return 1
	}
	m.all = append(m.all, note{with(p, func(*api.Packet) {}), cut, id})
	return 0
}

func (m *model) Match(q api.Packet) (int, bool) { return latest(m.last(), q) }

func latest(l []note, q api.Packet) (int, bool) {
	n, is := 0, false
	for _, d := range l {
		if d.matches(q) {
			n, is = d.length(), true
		}
	}
	return n, is
}

// length is asked of the bytes themselves.
func (d note) length() int {
	b, e := ip4.Build(d.p)
	if d.p.V == 6 {
		b, e = ip6.Build(d.p)
	}
	if e != api.OK {
		return -1
	}
	return len(b)
}

func (d note) matches(q api.Packet) bool {
	p := d.p
	if q.Off != 0 || q.V != p.V || q.Src != p.Src || q.Dst != p.Dst || q.Proto != p.Proto {
		return false
	}
	return d.identified(q) && d.begins(q)
}

func (d note) identified(q api.Packet) bool {
	switch {
	case d.p.V == 4:
		return q.ID == d.p.ID && !q.Frag
	case d.cut:
		return q.Frag && q.ID == d.id
	}
	return !q.Frag && q.ID == 0
}

func (d note) begins(q api.Packet) bool {
	for i, b := range d.p.Data {
		if i == 8 {
			break
		}
		if i >= len(q.Data) || q.Data[i] != b {
			return false
		}
	}
	return true
}

func made(t *testing.T, n int) (*Window, *model) {
	t.Helper()
	w, e := New(n)
	if e != api.OK || w == nil {
		t.Fatalf("P17.1: New(%d) = %v, %d", n, w, e)
	}
	return w, &model{n: n}
}

// both note on the window and on its model, and hold the answers against each other.
func both(t *testing.T, w *Window, m *model, d note) api.Errno {
	t.Helper()
	e, f := w.Note(d.p, d.cut, d.id), m.Note(d.p, d.cut, d.id)
	if e != f || w.Len() != m.Len() {
		t.Fatalf("P17.1: Note(%+v) = %d, Len %d; want %d, %d", d, e, w.Len(), f, m.Len())
	}
	return e
}

// asked holds a Match of the window against its model's.
func asked(t *testing.T, w *Window, m *model, q api.Packet) bool {
	t.Helper()
	n, is := w.Match(q)
	if want, f := m.Match(q); n != want || is != f {
		t.Fatalf("P17.1: Match(%+v) = %d, %v; want %d, %v", q, n, is, want, f)
	}
	return is
}

// packet is one of so few that two are often alike, or nearly so.
func (s *source) packet() api.Packet {
	p := four(uint32(s.below(3)), s.text())
	if s.once(2) {
		p = six(s.text())
	}
	p.Src.B[3], p.Dst.B[3], p.Proto = byte(s.below(2)), byte(s.below(2)), 16+s.below(2)
	p.TOS, p.TTL = s.below(256), s.below(256)
	if p.V == 4 {
		p.DF = s.once(2)
		p.Opts = bytes.Repeat([]byte{1}, 4*s.below(3))
	} else {
		p.Flow = s.below(1 << 20)
	}
	return p
}

// text begins alike each time, and seldom has another byte.
func (s *source) text() string {
	b := []byte("abcdefghijklmnop")[:s.below(14)]
	if s.once(3) && len(b) > 0 {
		b[s.below(len(b))] = 'X'
	}
	return string(b)
}

// note is mostly one that is taken.
func (s *source) note() note {
	d := note{p: s.packet(), id: uint32(s.below(3))}
	d.cut = d.p.V == 6 && s.once(2)
	if s.once(10) {
		d = refused[s.below(len(refused))]
	}
	return d
}

// quote is mostly of one that was noted, not always lately, and often changed at a place or two.
func (s *source) quote(m *model) api.Packet {
	q := s.packet()
	if len(m.all) > 0 && !s.once(4) {
		d := m.all[len(m.all)-1-s.below(min(len(m.all), 2*m.n+2))]
		q = d.p
		if d.cut {
			q = headed(q, d.id)
		}
	}
	for range s.below(3) {
		l := changes()
		q = with(q, l[s.below(len(l))].change)
	}
	return q
}

// change is of one field of a quote; free: one that routers and cutting change, which does not count.
type change struct {
	name   string
	free   bool
	change func(*api.Packet)
}

func changes() []change {
	return []change{
		{"TOS", true, func(q *api.Packet) { q.TOS ^= 9 }},
		{"a wild TOS", true, func(q *api.Packet) { q.TOS = -1 << 63 }},
		{"Flow", true, func(q *api.Packet) { q.Flow ^= 77 }},
		{"TTL", true, func(q *api.Packet) { q.TTL ^= 1 }},
		{"a wild TTL", true, func(q *api.Packet) { q.TTL = 1<<63 - 1 }},
		{"DF", true, func(q *api.Packet) { q.DF = !q.DF }},
		{"More", true, func(q *api.Packet) { q.More = !q.More }},
		{"Opts", true, func(q *api.Packet) { q.Opts = append(q.Opts, 7, 1, 0) }},
		{"more Data", true, func(q *api.Packet) { q.Data = append(q.Data, 'z') }},
		{"V", false, func(q *api.Packet) { q.V ^= 2 }},
		{"V and all addresses'", false, func(q *api.Packet) { q.V, q.Src.V, q.Dst.V = q.V^2, q.Src.V^2, q.Dst.V^2 }},
		{"Src", false, func(q *api.Packet) { q.Src.B[3] ^= 1 }},
		{"Src's last byte", false, func(q *api.Packet) { q.Src.B[15] ^= 1 }},
		{"Src's V", false, func(q *api.Packet) { q.Src.V ^= 2 }},
		{"Dst", false, func(q *api.Packet) { q.Dst.B[3] ^= 1 }},
		{"Dst's last byte", false, func(q *api.Packet) { q.Dst.B[15] ^= 1 }},
		{"Dst's V", false, func(q *api.Packet) { q.Dst.V ^= 2 }},
		{"Src and Dst exchanged", false, func(q *api.Packet) { q.Src, q.Dst = q.Dst, q.Src }},
		{"Proto", false, func(q *api.Packet) { q.Proto ^= 1 }},
		{"a wild Proto", false, func(q *api.Packet) { q.Proto += 256 }},
		{"ID", false, func(q *api.Packet) { q.ID ^= 1 }},
		{"a wild ID", false, func(q *api.Packet) { q.ID += 65536 }},
		{"Frag", false, func(q *api.Packet) { q.Frag = !q.Frag }},
		{"Off", false, func(q *api.Packet) { q.Off += 8 }},
		{"an Off that may not be", false, func(q *api.Packet) { q.Off = -1 }},
		{"another first byte", false, func(q *api.Packet) { q.Data = append([]byte{'?'}, q.Data[min(1, len(q.Data)):]...) }},
		{"no Data", false, func(q *api.Packet) { q.Data = nil }},
	}
}

// refused are made once, as some are long.
var refused = wrong()

// wrong are notes that are refused.
func wrong() []note {
	var l []note
	for _, p := range wrongPackets() {
		l = append(l, note{p: p}, note{p: p, cut: true, id: 9})
	}
	for _, p := range []api.Packet{four(7, ""), four(7, "abc"), four(0, "abcdefghi")} {
		l = append(l, note{p: p, cut: true}, note{p: p, cut: true, id: p.ID})
	}
	return l
}

func wrongPackets() []api.Packet {
	p, q := four(7, "abcdefgh"), six("abcdefgh")
	l := []api.Packet{
		{}, {V: 4}, {V: 6},
		with(p, func(p *api.Packet) { p.ID = 65536 }),
		with(p, func(p *api.Packet) { p.Flow = 1 }),
		with(p, func(p *api.Packet) { p.Opts = []byte{1} }),
		with(p, func(p *api.Packet) { p.Opts = []byte{7, 1, 0, 0} }),
		with(p, func(p *api.Packet) { p.Data = make([]byte, 65516) }),
		with(p, func(p *api.Packet) { p.Src.B[4] = 1 }),
		with(q, func(p *api.Packet) { p.DF = true }),
		with(q, func(p *api.Packet) { p.ID = 7 }),
		with(q, func(p *api.Packet) { p.Flow = 1 << 20 }),
		with(q, func(p *api.Packet) { p.Opts = []byte{1, 1, 1, 1} }),
		with(q, func(p *api.Packet) { p.Proto = 44 }),
		with(q, func(p *api.Packet) { p.Data = make([]byte, 65536) }),
	}
	for _, p := range []api.Packet{p, q, headed(q, 0), headed(q, 7)} {
		l = append(l,
			with(p, func(p *api.Packet) { p.Frag = true }),
			with(p, func(p *api.Packet) { p.More = true }),
			with(p, func(p *api.Packet) { p.Off = 8 }),
			with(p, func(p *api.Packet) { p.Off, p.More = 8, true }),
			with(p, func(p *api.Packet) { p.Off = -8 }),
			with(p, func(p *api.Packet) { p.Off = -1 << 63 }),
			with(p, func(p *api.Packet) { p.V = 5 }),
			with(p, func(p *api.Packet) { p.V ^= 2 }),
			with(p, func(p *api.Packet) { p.TOS = 256 }),
			with(p, func(p *api.Packet) { p.TTL = 256 }),
			with(p, func(p *api.Packet) { p.TTL = -1 }),
			with(p, func(p *api.Packet) { p.Proto = 256 }),
			with(p, func(p *api.Packet) { p.Src.V ^= 2 }),
			with(p, func(p *api.Packet) { p.Dst.V = 0 }))
	}
	return l
}

// count is how often a script came to what it is there for.
type count struct {
	refused, matched, none, forgotten int
}

func (c *count) least(t *testing.T, n int) {
	t.Helper()
	if min(c.refused, c.matched, c.none, c.forgotten) < n {
		t.Errorf("too few of a kind: %+v", *c)
	}
}

func (c *count) add(m *model, q api.Packet, is bool) {
	switch _, once := latest(m.all, q); {
	case is:
		c.matched++
	case once:
		c.forgotten++
	default:
		c.none++
	}
}

// TestModel holds every answer of long mixed scripts against the model's.
func TestModel(t *testing.T) {
	g := source(17)
	var c count
	for run := range 1500 {
		n := g.below(6)
		if run%50 == 0 {
			n = 64
		}
		w, m := made(t, n)
		for range 150 {
			if g.once(2) {
				if both(t, w, m, g.note()) != api.OK {
					c.refused++
				}
				continue
			}
			q := g.quote(m)
			c.add(m, q, asked(t, w, m, q))
		}
	}
	c.least(t, 1000)
}

// TestNoneElse asks of all that matches whether it is of one of the last n.
func TestNoneElse(t *testing.T) {
	g := source(173)
	found := 0
	for range 800 {
		w, m := made(t, 1+g.below(5))
		for range 80 {
			both(t, w, m, g.note())
			q := g.quote(m)
			n, is := w.Match(q)
			if !is {
				continue
			}
			found++
			if !someIs(m.last(), q, n) {
				t.Fatalf("P17.3: Match(%+v) = %d, but none of the last %d is that", q, n, m.n)
			}
		}
	}
	if found < 5000 {
		t.Errorf("only %d matched", found)
	}
}

// someIs says whether one of a list has what P17.3 names, and that length.
func someIs(l []note, q api.Packet, length int) bool {
	for _, d := range l {
		p, front := d.p, d.p.Data[:min(8, len(d.p.Data))]
		id := p.ID
		if d.cut {
			id = d.id
		}
		if q.V == p.V && q.Src == p.Src && q.Dst == p.Dst && q.Proto == p.Proto && q.ID == id && bytes.HasPrefix(q.Data, front) && d.length() == length {
			return true
		}
	}
	return false
}
