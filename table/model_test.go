package table

import (
	"bytes"
	"fmt"
	"slices"
	"testing"

	"mosaic/api"
	"mosaic/entry"
	"mosaic/ip4"
	"mosaic/ip6"
)

// source is a plain generator, so that every run sees the same inputs.
type source uint64

func (s *source) next() uint64 {
	*s ^= *s << 13
	*s ^= *s >> 7
	*s ^= *s << 17
	return uint64(*s)
}

func (s *source) below(n int) int { return int((s.next() >> 11) % uint64(n)) }

func shuffle[T any](g *source, l []T) {
	for i := range l {
		j := g.below(i + 1)
		l[i], l[j] = l[j], l[i]
	}
}

func said(off, n int) []byte {
	b := make([]byte, n)
	for i := range b {
		b[i] = byte((off+i)*7 + (off+i)>>8)
	}
	return b
}

// packet has a fragment header in version 6.
func packet(v int, id uint32, off, n int, more bool) api.Packet {
	p := api.Packet{V: v, Src: api.Addr{V: v, B: [16]byte{10, 0, 0, 1}}, Dst: api.Addr{V: v, B: [16]byte{10, 0, 0, 2}}, Proto: 17, TTL: 64, ID: id, Frag: v == 6}
	p.Off, p.Data, p.More = off, said(off, n), more
	return p
}

// datagram is what is told of the pieces of packet: no fragment header.
func datagram(v int, id uint32, n int) api.Packet {
	p := packet(v, id, 0, n, false)
	if v == 6 {
		p.Frag, p.ID = false, 0
	}
	return p
}

func with(p api.Packet, change func(*api.Packet)) api.Packet {
	p.Opts, p.Data = bytes.Clone(p.Opts), bytes.Clone(p.Data)
	change(&p)
	return p
}

// spoilt has another byte at its end.
func spoilt(p api.Packet) api.Packet {
	return with(p, func(p *api.Packet) { p.Data[len(p.Data)-1] ^= 0x40 })
}

func same(p, q api.Packet) bool {
	return p.V == q.V && p.TOS == q.TOS && p.Flow == q.Flow && p.Src == q.Src && p.Dst == q.Dst &&
		p.Proto == q.Proto && p.TTL == q.TTL && p.ID == q.ID &&
		p.DF == q.DF && p.More == q.More && p.Frag == q.Frag && p.Off == q.Off &&
		bytes.Equal(p.Opts, q.Opts) && bytes.Equal(p.Data, q.Data)
}

func alike(a, b Told) bool {
	return a.Says == b.Says && slices.EqualFunc(a.Whole, b.Whole, same) && slices.EqualFunc(a.Late, b.Late, same) && slices.Equal(a.Gone, b.Gone)
}

// record is an entry of the model: what it is asked, and beside it what the table has to know of it.
type record struct {
	key      api.Key
	born     int64
	first    []api.Packet // one at most
	poisoned bool
	asked    *entry.Entry
}

func (r *record) put(p api.Packet) int {
	says := r.asked.Put(p)
	if p.Off == 0 && len(r.first) == 0 && says == api.Taken {
		r.first = append(r.first, p)
	}
	r.poisoned = r.poisoned || says == api.Poisoned
	return says
}

// model is the chapter's words over a plain list.
type model struct {
	quota api.Quota
	last  int64
	list  []*record // in the order in which they began
}

func right(p api.Packet) bool { return ip4.Right(p) || ip6.Right(p) }

func (m *model) refuses(now int64) bool { return now < 0 || now > 1<<40 || now < m.last }

func (m *model) Tick(now int64) (Told, api.Errno) {
	if m.refuses(now) {
		return Told{}, 1
	}
	m.last = now
	var told Told
	var kept []*record
	for _, r := range m.list {
		if now-r.born < m.quota.Timeout {
			kept = append(kept, r)
		} else if !r.poisoned {
			told.Late = append(told.Late, r.first...)
		}
	}
	m.list = kept
	return told, 0
}

func (m *model) Put(p api.Packet, now int64) (Told, api.Errno) {
	if !right(p) || m.refuses(now) {
		return Told{}, 1
	}
	told, _ := m.Tick(now)
	if p.Off == 0 && !p.More {
		if p.V == 6 {
			p.Frag, p.ID = false, 0
		}
		told.Whole = append(told.Whole, p)
		return told, 0
	}
	at := m.find(api.Key{V: p.V, Src: p.Src, Dst: p.Dst, Proto: p.Proto, ID: p.ID})
	if at < 0 {
		at = len(m.list)
		k := api.Key{V: p.V, Src: p.Src, Dst: p.Dst, Proto: p.Proto, ID: p.ID}
		m.list = append(m.list, &record{key: k, born: now, asked: entry.New(k, now)})
	}
	r := m.list[at]
	told.Says = r.put(p)
	if told.Says == api.Done {
		whole, _ := r.asked.Whole()
		told.Whole = append(told.Whole, whole)
		m.list = append(m.list[:at:at], m.list[at+1:]...)
		return told, 0
	}
	if r.asked.Holes() > m.quota.Holes {
		r.poisoned = true
		r.asked.Poison()
		told.Says = api.Poisoned
	}
	for len(m.list) > m.quota.Entries || m.Bytes() > m.quota.Bytes {
		told.Gone = append(told.Gone, m.list[0].key)
		m.list = m.list[1:]
	}
	return told, 0
}

func (m *model) find(k api.Key) int {
	return slices.IndexFunc(m.list, func(r *record) bool { return r.key == k })
}

func (m *model) Bytes() int {
	n := 0
	for _, r := range m.list {
		n += r.asked.Bytes()
	}
	return n
}

func made(t *testing.T, q api.Quota) (*Table, *model) {
	t.Helper()
	x, e := New(q)
	if e != api.OK || x == nil {
		t.Fatalf("P15.1: New(%v): %d", q, e)
	}
	return x, &model{quota: q}
}

// tells holds all that a table tells of itself against its model, and its quota.
func tells(t *testing.T, x *Table, m *model) {
	t.Helper()
	keys := x.Keys()
	if len(keys) != len(m.list) || x.Bytes() != m.Bytes() {
		t.Fatalf("P15.1: %d keys, %d bytes; want %d, %d", len(keys), x.Bytes(), len(m.list), m.Bytes())
	}
	if len(keys) > m.quota.Entries || x.Bytes() > m.quota.Bytes {
		t.Fatalf("P15.2: %d keys, %d bytes of %v", len(keys), x.Bytes(), m.quota)
	}
	for i, r := range m.list {
		if keys[i] != r.key || x.Holes(r.key) != r.asked.Holes() || x.Poisoned(r.key) != r.poisoned {
			t.Fatalf("P15.1: entry %d: %v, %d holes, poisoned %v", i, keys[i], x.Holes(r.key), x.Poisoned(r.key))
		}
		if x.Holes(r.key) > m.quota.Holes || m.last-r.born >= m.quota.Timeout || slices.Contains(keys[:i], r.key) {
			t.Fatalf("P15.2: entry %d: %v, %d holes, born %d at %d", i, keys[i], x.Holes(r.key), r.born, m.last)
		}
		other := r.key
		other.ID += 1 << 20
		if x.Holes(other) != -1 || x.Poisoned(other) {
			t.Fatalf("P15.1: an entry of a key that has none: %v", other)
		}
	}
}

// move is a Put, or, with a packet of version 0, a Tick.
type move struct {
	p    api.Packet
	wait int64
}

func (mv move) String() string {
	if mv.p.V == 0 {
		return fmt.Sprintf("+%d", mv.wait)
	}
	return fmt.Sprintf("+%d %d/%d:%d..%d%v", mv.wait, mv.p.V, mv.p.ID, mv.p.Off, mv.p.Off+len(mv.p.Data), mv.p.More)
}

// both makes a move on a table and on its model.
func both(t *testing.T, x *Table, m *model, mv move) (Told, api.Errno) {
	t.Helper()
	now := m.last + mv.wait
	ask, answer := x.Tick, m.Tick
	if mv.p.V != 0 {
		ask = func(now int64) (Told, api.Errno) { return x.Put(mv.p, now) }
		answer = func(now int64) (Told, api.Errno) { return m.Put(mv.p, now) }
	}
	got, e := ask(now)
	want, ee := answer(now)
	if e != ee || !alike(got, want) {
		t.Fatalf("P15.1: %v at %d of %v: %d, %+v; want %d, %+v", mv, now, m.quota, e, got, ee, want)
	}
	tells(t, x, m)
	return got, e
}

// count is how many calls told what.
type count struct {
	says                  [api.Done + 1]int
	whole, late, gone, no int
}

func (c *count) add(told Told, e api.Errno) {
	c.says[told.Says]++
	c.whole += len(told.Whole)
	c.late += len(told.Late)
	c.gone += len(told.Gone)
	if e != api.OK {
		c.no++
	}
}

func (c *count) least(t *testing.T, n int) {
	t.Helper()
	for says := api.Swallowed; says <= api.Done; says++ {
		if c.says[says] < n {
			t.Errorf("too few of a kind: %+v", *c)
		}
	}
	if c.says[api.Ignored] > 0 {
		t.Errorf("P15.1: an entry was asked of what is not for it: %+v", *c)
	}
	if c.whole < n || c.late < n || c.gone < n {
		t.Errorf("too few of a kind: %+v", *c)
	}
}

// someMoves are those of which all short scripts are made.
func someMoves(v int) []move {
	one := func(off, n int, more bool) api.Packet { return packet(v, 1, off, n, more) }
	return []move{
		{p: one(0, 8, true)}, {p: one(8, 8, true)}, {p: one(16, 5, false), wait: 1}, {p: one(0, 16, true)}, {p: spoilt(one(8, 8, true)), wait: 2},
		{p: one(0, 21, false)}, {p: packet(v, 2, 8, 8, true)}, {p: packet(v, 2, 0, 8, true), wait: 2}, {p: packet(10-v, 1, 8, 5, false), wait: 1}, {p: packet(v, 3, 0, 8, true)},
		{p: with(one(0, 8, true), func(p *api.Packet) { p.TTL = 256 }), wait: 5}, {wait: 3}, {wait: -1},
	}
}

func someQuotas() []api.Quota {
	return []api.Quota{
		{Entries: 64, Bytes: 1 << 20, Holes: 8192, Timeout: 1 << 40},
		{Entries: 3, Bytes: 100, Holes: 8, Timeout: 4},
		{Entries: 1, Bytes: 100, Holes: 8, Timeout: 4},
		{Entries: 2, Bytes: 24, Holes: 8, Timeout: 3},
		{Entries: 8, Bytes: 16, Holes: 2, Timeout: 9},
		{Entries: 8, Bytes: 0, Holes: 2, Timeout: 9},
		{Entries: 2, Bytes: 50, Holes: 1, Timeout: 5},
		{Entries: 2, Bytes: 50, Holes: 2, Timeout: 1},
	}
}

// TestEveryShortScript makes every list of so many moves, with each quota.
func TestEveryShortScript(t *testing.T) {
	const long = 4
	var c count
	for _, v := range []int{4, 6} {
		all := someMoves(v)
		for _, q := range someQuotas() {
			for n := range len(all) * len(all) * len(all) * len(all) {
				x, m := made(t, q)
				for range long {
					c.add(both(t, x, m, all[n%len(all)]))
					n /= len(all)
				}
			}
		}
	}
	c.least(t, 1000)
	if c.no < 1000 {
		t.Errorf("too few were refused: %+v", c)
	}
}

// move is one among the pieces of some short datagrams; now and then one that contradicts, or is no packet, or comes too early.
func (s *source) move(keys int) move {
	k := s.below(keys)
	v, id := 4+2*(k%2), uint32(k/2)
	units := 1 + (k*5)%7
	from := s.below(units + 1)
	to := min(from+1+s.below(3), units+1)
	end := units*8 + 1 + k%8
	n := min(to*8, end) - from*8
	p := packet(v, id, from*8, n, from*8+n < end)
	wait := int64(max(0, s.below(6)-3))
	switch s.below(60) {
	case 0:
		p.More = !p.More
	case 1:
		p = spoilt(p)
	case 2:
		p.TTL = 250 + s.below(10)
	case 3:
		p = packet(v, id, 0, end, false)
	case 4:
		p = datagram(v, id, s.below(60))
	case 5, 6, 7:
		p = api.Packet{}
	case 8:
		wait = -1 - int64(s.below(3))
	case 9:
		wait = int64(s.below(30))
	case 10:
		p.Dst.B[3]++
	case 11:
		p.Proto++
	case 12:
		p.Src, p.Dst = p.Dst, p.Src
	}
	if p.V == 4 && s.below(4) == 0 {
		p.Opts = bytes.Repeat([]byte{1}, 4*s.below(11))
	}
	return move{p, wait}
}

func (s *source) quota() api.Quota {
	return api.Quota{Entries: 1 + s.below(6), Bytes: s.below(120), Holes: 1 + s.below(4), Timeout: int64(1 + s.below(25))}
}

func TestRandomScripts(t *testing.T) {
	g := source(15)
	var c count
	for range 4000 {
		x, m := made(t, g.quota())
		keys := 1 + g.below(8)
		for range 60 {
			c.add(both(t, x, m, g.move(keys)))
		}
	}
	c.least(t, 1000)
	if c.no < 1000 {
		t.Errorf("too few were refused: %+v", c)
	}
}
