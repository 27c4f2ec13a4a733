package entry

import (
	"bytes"
	"fmt"
	"maps"
	"slices"
	"strings"
	"testing"

	"mosaic/api"
	"mosaic/ip4"
	"mosaic/ip6"
)

// source is a plain generator, so that every run sees the same inputs.
type source uint64

func (s *source) next() uint64 {
	*s ^= *s << 13
	*s ^= *s >> 7
	*s ^= *s << 17
	return uint64(*s)
}

func (s *source) below(n int) int { return int((s.next() >> 11) % uint64(n)) }

func shuffle[T any](g *source, l []T) {
	for i := range l {
		j := g.below(i + 1)
		l[i], l[j] = l[j], l[i]
	}
}

// byteAt is the byte that the tests' datagrams have at an offset.
func byteAt(off int) byte { return byte(off*7 + off>>8) }

func said(off, n int) []byte {
	b := make([]byte, max(n, 0))
	for i := range b {
		b[i] = byteAt(off + i)
	}
	return b
}

// four is a packet of version 4, and six one of version 6 with a fragment header.
func four(off, n int, more bool) api.Packet {
	return api.Packet{V: 4, Src: api.Addr{V: 4, B: [16]byte{10, 0, 0, 1}}, Dst: api.Addr{V: 4, B: [16]byte{10, 0, 0, 2}}, Proto: 17, TTL: 64, ID: 7, Off: off, Data: said(off, n), More: more}
}

func six(off, n int, more bool) api.Packet {
	return api.Packet{V: 6, Src: api.Addr{V: 6, B: [16]byte{1}}, Dst: api.Addr{V: 6, B: [16]byte{2}}, Proto: 17, TTL: 64, ID: 7, Frag: true, Off: off, Data: said(off, n), More: more}
}

func packet(v, off, n int, more bool) api.Packet {
	if v == 6 {
		return six(off, n, more)
	}
	return four(off, n, more)
}

func with(p api.Packet, change func(*api.Packet)) api.Packet {
	p.Opts, p.Data = bytes.Clone(p.Opts), bytes.Clone(p.Data)
	change(&p)
	return p
}

// spoilt has another byte at an offset of the datagram.
func spoilt(p api.Packet, off int) api.Packet {
	return with(p, func(p *api.Packet) { p.Data[off-p.Off] ^= 0x40 })
}

func same(p, q api.Packet) bool {
	return p.V == q.V && p.TOS == q.TOS && p.Flow == q.Flow && p.Src == q.Src && p.Dst == q.Dst &&
		p.Proto == q.Proto && p.TTL == q.TTL && p.ID == q.ID &&
		p.DF == q.DF && p.More == q.More && p.Frag == q.Frag && p.Off == q.Off &&
		bytes.Equal(p.Opts, q.Opts) && bytes.Equal(p.Data, q.Data)
}

// model is the chapter's words: a partial function from offsets to bytes, and the fragments that were taken, as they came.
type model struct {
	key      api.Key
	born     int64
	poisoned bool
	there    map[int]byte
	taken    []api.Packet
}

func newModel(k api.Key, at int64) *model {
	return &model{key: k, born: at, there: map[int]byte{}}
}

func (m *model) end() (int, bool) {
	for _, p := range m.taken {
		if !p.More {
			return p.Off + len(p.Data), true
		}
	}
	return 0, false
}

func (m *model) First() (api.Packet, bool) {
	for _, p := range m.taken {
		if p.Off == 0 {
			return p, true
		}
	}
	return api.Packet{}, false
}

func (m *model) Poison() {
	m.poisoned, m.there, m.taken = true, nil, nil
}

func (m *model) isOwn(p api.Packet) bool {
	right := ip4.Right(p) || ip6.Right(p)
	whole := p.Off == 0 && !p.More
	return right && !whole && m.key == api.Key{V: p.V, Src: p.Src, Dst: p.Dst, Proto: p.Proto, ID: p.ID}
}

// contradictsEnd is step 3.
func (m *model) contradictsEnd(p api.Packet) bool {
	to := p.Off + len(p.Data)
	end, known := m.end()
	if p.More {
		return known && to > end
	}
	if known && end != to {
		return true
	}
	for off := range m.there {
		if off >= to {
			return true
		}
	}
	return false
}

// tooLong is step 4.
func (m *model) tooLong(p api.Packet) bool {
	first, begun := m.First()
	if !begun && p.Off == 0 {
		first, begun = p, true
	}
	end, known := m.end()
	if !known && !p.More {
		end, known = p.Off+len(p.Data), true
	}
	return begun && known && ip4.Head(first)+end > 65535
}

// overlap is how many of p's bytes are there, and whether one of these is another.
func (m *model) overlap(p api.Packet) (n int, other bool) {
	for i, b := range p.Data {
		if was, is := m.there[p.Off+i]; is {
			n++
			other = other || was != b
		}
	}
	return n, other
}

func (m *model) hasTaken(p api.Packet) bool {
	for _, q := range m.taken {
		if q.Off == p.Off && q.More == p.More && bytes.Equal(q.Data, p.Data) {
			return true
		}
	}
	return false
}

// judge is what steps 1 to 6 say; 0: none of them holds.
func (m *model) judge(p api.Packet) int {
	if !m.isOwn(p) {
		return api.Ignored
	}
	if m.poisoned {
		return api.Swallowed
	}
	if m.contradictsEnd(p) || p.V == 4 && m.tooLong(p) {
		return api.Poisoned
	}
	n, other := m.overlap(p)
	_, known := m.end()
	switch {
	case p.V == 6 && n > 0 && m.hasTaken(p):
		return api.Twin
	case p.V == 6 && n > 0:
		return api.Poisoned
	case p.V == 4 && other:
		return api.Poisoned
	case p.V == 4 && n == len(p.Data) && (p.More || known):
		return api.Twin
	}
	return 0
}

func (m *model) Put(p api.Packet) int {
	says := m.judge(p)
	if says == api.Poisoned {
		m.Poison()
	}
	if says != 0 {
		return says
	}
	m.taken = append(m.taken, with(p, func(*api.Packet) {}))
	for i, b := range p.Data {
		m.there[p.Off+i] = b
	}
	if m.done() {
		return api.Done
	}
	return api.Taken
}

func (m *model) done() bool {
	end, known := m.end()
	return known && len(m.there) == end
}

func (m *model) Holes() int {
	if m.poisoned {
		return 0
	}
	n, at := 0, 0
	for _, off := range slices.Sorted(maps.Keys(m.there)) {
		if off > at {
			n++
		}
		at = off + 1
	}
	if end, known := m.end(); !known || at < end {
		n++
	}
	return n
}

func (m *model) Whole() (api.Packet, bool) {
	if m.poisoned || !m.done() {
		return api.Packet{}, false
	}
	p, _ := m.First()
	p.More, p.Data = false, make([]byte, len(m.there))
	for off, b := range m.there {
		p.Data[off] = b
	}
	if p.V == 6 {
		p.Frag, p.ID = false, 0
	}
	return p, true
}

// tells holds all that an entry tells against its model.
func tells(t *testing.T, e *Entry, m *model) {
	t.Helper()
	if e.Key() != m.key || e.Born() != m.born || e.IsPoisoned() != m.poisoned {
		t.Fatalf("P14.1: Key %v, Born %d, IsPoisoned %v", e.Key(), e.Born(), e.IsPoisoned())
	}
	if e.Bytes() != len(m.there) || e.Holes() != m.Holes() {
		t.Fatalf("P14.3: %d bytes, %d holes; want %d, %d", e.Bytes(), e.Holes(), len(m.there), m.Holes())
	}
	got, is := e.First()
	if want, has := m.First(); is != has || !same(got, want) {
		t.Fatalf("P14.1: First = %v, %v; want %v, %v", got, is, want, has)
	}
	got, is = e.Whole()
	if want, has := m.Whole(); is != has || !same(got, want) {
		t.Fatalf("P14.1: Whole = %v, %v; want %v, %v", got, is, want, has)
	}
}

// both puts a packet into an entry and its model, and tells what was said.
func both(t *testing.T, e *Entry, m *model, p api.Packet) int {
	t.Helper()
	was := slices.Clone(m.taken)
	got, want := e.Put(p), m.Put(p)
	if got != want {
		t.Fatalf("P14.1: behind %s Put(%s) = %d, want %d", brief(was...), brief(p), got, want)
	}
	tells(t, e, m)
	return got
}

// brief tells of packets where they stand.
func brief(l ...api.Packet) string {
	var out []string
	for _, p := range l {
		out = append(out, fmt.Sprintf("%d:%d%s", p.Off, len(p.Data), map[bool]string{true: "+"}[p.More]))
	}
	return strings.Join(out, " ")
}

// some are the fragments and other packets of which all short scripts are made, from a base on.
func some(v, base int) []api.Packet {
	l := []api.Packet{
		packet(v, base, 8, true), packet(v, base, 16, true), packet(v, base+8, 8, true), packet(v, base+8, 16, true), packet(v, base+16, 8, true),
		packet(v, base+8, 8, false), packet(v, base+8, 3, false), packet(v, base+16, 8, false), packet(v, base+16, 1, false), packet(v, base+8, 16, false),
		spoilt(packet(v, base, 16, true), base+9), spoilt(packet(v, base+8, 8, false), base+15), spoilt(packet(v, base+16, 8, true), base+16),
		with(packet(v, base, 8, true), func(p *api.Packet) { p.TTL, p.TOS = 9, 1 }),
	}
	if base > 0 {
		l = append(l, packet(v, 0, 8, true), packet(v, base-8, 8, true))
	}
	return l
}

// TestEveryShortScript puts every list of so many fragments.
func TestEveryShortScript(t *testing.T) {
	said := map[int]int{}
	for _, v := range []int{4, 6} {
		everyScript(t, some(v, 0), 4, said)
		// The ends lie at 65512 to 65528: some are too long for version 4, and some are not.
		everyScript(t, some(v, 65504), 3, said)
	}
	if said[api.Twin] < 1000 || said[api.Poisoned] < 1000 || said[api.Taken] < 1000 || said[api.Done] < 1000 {
		t.Errorf("too few of a kind: %v", said)
	}
}

func everyScript(t *testing.T, all []api.Packet, long int, said map[int]int) {
	t.Helper()
	count := 1
	for range long {
		count *= len(all)
	}
	k := keyOf(all[0])
	for n := range count {
		e, m := New(k, 3), newModel(k, 3)
		for range long {
			said[both(t, e, m, all[n%len(all)])]++
			n /= len(all)
		}
	}
}

// fragment is one of a datagram of so many units and some bytes; now and then one that contradicts.
func (s *source) fragment(v, units, rest int) api.Packet {
	from := s.below(units + 1)
	to := min(from+1+s.below(4), units+1)
	end := units*8 + rest
	n := min(to*8, end) - from*8
	p := packet(v, from*8, n, from*8+n < end)
	switch s.below(40) {
	case 0:
		p.More = !p.More
	case 1:
		p.Off = 8 * s.below(units+3)
	case 2:
		p.Data[s.below(n)]++
	case 3:
		p.Data = p.Data[:s.below(n)+1]
	case 4:
		p.ID++
	case 5:
		p.TTL, p.TOS = s.below(300), s.below(256)
	case 6:
		p.DF = true
	}
	if v == 4 && s.below(4) == 0 {
		p.Opts = bytes.Repeat([]byte{1}, 4*s.below(11))
	}
	return p
}

func TestRandomScripts(t *testing.T) {
	g := source(14)
	said := map[int]int{}
	for i := range 6000 {
		v := 4 + 2*(i%2)
		units, rest := 1+g.below(12), 1+g.below(8)
		k := keyOf(packet(v, 0, 0, false))
		e, m := New(k, int64(i)), newModel(k, int64(i))
		for range 40 {
			said[both(t, e, m, g.fragment(v, units, rest))]++
			if g.below(200) == 0 {
				e.Poison()
				m.Poison()
				tells(t, e, m)
			}
		}
	}
	for says := api.Ignored; says <= api.Done; says++ {
		if said[says] < 500 {
			t.Errorf("too few of a kind: %v", said)
		}
	}
}

// TestRandomPlaces has fragments anywhere, long ones too.
func TestRandomPlaces(t *testing.T) {
	g := source(141)
	for i := range 30 {
		v := 4 + 2*(i%2)
		k := keyOf(packet(v, 0, 0, false))
		e, m := New(k, 0), newModel(k, 0)
		most := 1 + g.below(200)
		for range 40 {
			from := g.below(8192)
			to := min(8*(from+1+g.below(most)), 65528)
			p := packet(v, from*8, to-from*8, true)
			if g.below(30) == 0 {
				p = packet(v, 65528, 1+g.below(7), false)
			}
			both(t, e, m, p)
		}
	}
}
