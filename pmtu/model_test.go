package pmtu

import (
	"bytes"
	"math"
	"slices"
	"testing"

	"mosaic/api"
)

// source is a plain generator, so that every run sees the same inputs.
type source uint64

func (s *source) next() uint64 {
	*s ^= *s << 13
	*s ^= *s >> 7
	*s ^= *s << 17
	return uint64(*s)
}

func (s *source) below(n int) int { return int((s.next() >> 11) % uint64(n)) }

// once in n times it says yes.
func (s *source) once(n int) bool { return s.below(n) == 0 }

func one[T any](s *source, l []T) T { return l[s.below(len(l))] }

func four(n byte) api.Addr { return api.Addr{V: 4, B: [16]byte{10, 0, 0, n}} }

func six(n byte) api.Addr { return api.Addr{V: 6, B: [16]byte{0x20, 1, 0x0d, 0xb8, 15: n}} }

// destinations are few, so that many are heard of again, and many pairs differ at one place alone.
func destinations() []api.Addr {
	return []api.Addr{
		four(1), four(2), four(3), {V: 4, B: [16]byte{9, 255}}, {V: 4}, {V: 4, B: [16]byte{255, 255, 255, 255}},
		six(1), six(2), {V: 6}, {V: 6, B: [16]byte{10, 0, 0, 1}}, {V: 6, B: [16]byte{0: 255}},
	}
}

func noAddresses() []api.Addr {
	return []api.Addr{
		{}, {V: 5}, {V: -4}, {V: 7}, {V: math.MinInt}, {V: math.MaxInt}, {V: 4 + 1<<32},
		{V: 5, B: [16]byte{10, 0, 0, 1}}, {V: 4, B: [16]byte{10, 0, 0, 1, 1}}, {V: 4, B: [16]byte{10, 0, 0, 1, 15: 1}},
	}
}

// plateaus are written out once more, as chapter 16 tells them.
func plateaus() []int {
	return []int{65535, 32000, 17914, 8166, 4352, 2002, 1492, 1280, 1006, 508, 296, 68}
}

func below(n int) int {
	for _, p := range plateaus() {
		if p < n {
			return p
		}
	}
	return 68
}

func above(n int) int {
	for i := len(plateaus()) - 1; i >= 0; i-- {
		if plateaus()[i] > n {
			return plateaus()[i]
		}
	}
	return 65535
}

func floorOf(dst api.Addr) int {
	if dst.V == 6 {
		return 1280
	}
	return 68
}

// record is an entry of the model.
type record struct {
	dst      api.Addr
	estimate int
	first    int
	clock    int64
}

// model is the chapter's words over a plain list in the order of hearing, the latest at the end.
type model struct {
	bounds api.Paths
	last   int64
	list   []record
}

func (m *model) at(dst api.Addr) int {
	return slices.IndexFunc(m.list, func(r record) bool { return r.dst == dst })
}

func isAddress(a api.Addr) bool {
	return a.V == 6 || a.V == 4 && bytes.Equal(a.B[4:], make([]byte, 12))
}

func (m *model) Get(dst api.Addr, first int) (int, api.Errno) {
	if !isAddress(dst) || first < floorOf(dst) || first > 65535 {
		return 0, 1
	}
	i := m.at(dst)
	if i < 0 || m.list[i].estimate > first {
		return first, 0
	}
	return m.list[i].estimate, 0
}

func (m *model) refuses(now int64) bool { return now < 0 || now > 1<<40 || now < m.last }

// meansNone is above every first, and so passed over.
const meansNone = math.MaxInt

func (m *model) meant(dst api.Addr, mtu, length int) int {
	if dst.V == 6 {
		if mtu < 1280 {
			return meansNone
		}
		return mtu
	}
	if mtu == 0 {
		return below(length)
	}
	if mtu < 68 {
		return 68
	}
	return mtu
}

func (m *model) Hear(dst api.Addr, first, mtu, length int, now int64) (bool, api.Errno) {
	was, e := m.Get(dst, first)
	if e != 0 || m.refuses(now) {
		return false, 1
	}
	m.last = now
	estimate := m.meant(dst, mtu, length)
	if estimate >= was {
		return false, 0
	}
	if i := m.at(dst); i >= 0 {
		m.list = slices.Delete(m.list, i, i+1)
	} else if len(m.list) == m.bounds.Entries {
		m.list = m.list[1:]
	}
	m.list = append(m.list, record{dst, estimate, first, now})
	return true, 0
}

func (m *model) Tick(now int64) ([]api.Addr, api.Errno) {
	if m.refuses(now) {
		return nil, 1
	}
	m.last = now
	var rose []api.Addr
	var kept []record
	for _, r := range m.list {
		if now-r.clock >= m.bounds.Age {
			rose = append(rose, r.dst)
			r.estimate, r.clock = above(r.estimate), now
		}
		if r.estimate < r.first {
			kept = append(kept, r)
		}
	}
	m.list = kept
	return sorted(rose), 0
}

func (m *model) All() []api.Addr {
	var l []api.Addr
	for _, r := range m.list {
		l = append(l, r.dst)
	}
	return sorted(l)
}

// sorted goes by V and then by each byte.
func sorted(l []api.Addr) []api.Addr {
	slices.SortFunc(l, func(a, b api.Addr) int {
		if a.V != b.V {
			return a.V - b.V
		}
		for i := range a.B {
			if a.B[i] != b.B[i] {
				return int(a.B[i]) - int(b.B[i])
			}
		}
		return 0
	})
	return l
}

func made(t *testing.T, entries int, age int64) (*Cache, *model) {
	t.Helper()
	p := api.Paths{Entries: entries, Age: age}
	c, e := New(p)
	if e != api.OK || c == nil {
		t.Fatalf("P18.1: New(%v) = %v, %d", p, c, e)
	}
	return c, &model{bounds: p}
}

// move is a Hear, or a Tick.
type move struct {
	tick               bool
	dst                api.Addr
	first, mtu, length int
	now                int64
}

// both make a move on the cache and on its model, and hold the answers against each other. Told is whether the estimate fell, or the list of those that rose.
func both(t *testing.T, c *Cache, m *model, x move) (bool, []api.Addr, api.Errno) {
	t.Helper()
	if x.tick {
		l, e := c.Tick(x.now)
		if want, f := m.Tick(x.now); e != f || !slices.Equal(l, want) {
			t.Fatalf("P18.1: Tick(%d) = %v, %d; want %v, %d", x.now, l, e, want, f)
		}
		return false, l, e
	}
	fell, e := c.Hear(x.dst, x.first, x.mtu, x.length, x.now)
	if want, f := m.Hear(x.dst, x.first, x.mtu, x.length, x.now); e != f || fell != want {
		t.Fatalf("P18.1: Hear(%+v) = %v, %d; want %v, %d", x, fell, e, want, f)
	}
	return fell, nil, e
}

// firsts are those with which the estimates are asked.
func firsts() []int {
	return []int{math.MinInt, -1, 0, 67, 68, 69, 296, 576, 1279, 1280, 1281, 1492, 1500, 2002, 9000, 32000, 65534, 65535, 65536, math.MaxInt}
}

// tells holds all that may be asked against the model.
func tells(t *testing.T, c *Cache, m *model) {
	t.Helper()
	if l := c.All(); !slices.Equal(l, m.All()) {
		t.Fatalf("P18.1: All() = %v; want %v", l, m.All())
	}
	for _, dst := range destinations() {
		for _, first := range firsts() {
			n, e := c.Get(dst, first)
			if want, f := m.Get(dst, first); n != want || e != f {
				t.Fatalf("P18.1: Get(%v, %d) = %d, %d; want %d, %d", dst, first, n, e, want, f)
			}
			if e == api.OK && (n < floorOf(dst) || n > first) {
				t.Fatalf("P18.2: Get(%v, %d) = %d", dst, first, n)
			}
		}
	}
}

// number is any int, mostly one at an edge of what an MTU is.
func (s *source) number() int {
	switch s.below(8) {
	case 0:
		return one(s, []int{math.MinInt, math.MinInt32, -65536, -1280, -68, -1, 65536, 1 << 20, 1<<32 + 576, math.MaxInt32, math.MaxInt})
	case 1:
		return one(s, plateaus()) + s.below(3) - 1
	case 2:
		return one(s, []int{0, 0, 0, 1, 20, 66, 67, 68, 69, 1279, 1280, 1281})
	case 3:
		return s.below(66000)
	}
	return 60 + s.below(2000)
}

func (s *source) first(dst api.Addr) int {
	switch s.below(4) {
	case 0:
		return floorOf(dst) + s.below(65536-floorOf(dst))
	case 1:
		return one(s, []int{floorOf(dst), floorOf(dst) + 1, 1492, 2002, 2003, 65534, 65535})
	}
	return 1500
}

// move is mostly one that is taken; nows go on by steps around the age and far below it.
func (s *source) move(m *model) move {
	x := move{tick: s.once(3), dst: one(s, destinations()), mtu: s.number(), length: s.number()}
	x.first = s.first(x.dst)
	if i := m.at(x.dst); i >= 0 && s.once(4) {
		x.mtu = m.list[i].estimate + s.below(3) - 1
	}
	switch s.below(4) {
	case 0:
		x.now = m.last
	case 1:
		x.now = m.last + m.bounds.Age + int64(s.below(3)) - 1
	default:
		x.now = m.last + int64(s.below(int(m.bounds.Age)+1))
	}
	if s.once(12) {
		s.spoil(&x, m)
	}
	return x
}

// spoil makes it one that is refused, most times by one argument alone.
func (s *source) spoil(x *move, m *model) {
	switch s.below(3) {
	case 0:
		x.dst = one(s, noAddresses())
	case 1:
		x.first = one(s, []int{math.MinInt, -1500, -1, 0, floorOf(x.dst) - 1, 65536, 1<<32 + 1500, math.MaxInt})
	default:
		x.now = one(s, []int64{math.MinInt64, -1, m.last - 1, 1<<40 + 1, math.MaxInt64})
	}
}

// count is how often a script came to what it is there for.
type count struct {
	refused, fell, passed, again, pushed, rose, went, still int
}

func (c *count) least(t *testing.T, n int) {
	t.Helper()
	if min(c.refused, c.fell, c.passed, c.again, c.pushed, c.rose, c.went, c.still) < n {
		t.Errorf("too few of a kind: %+v", *c)
	}
}

func (c *count) add(x move, had bool, was, is int, fell bool, rose []api.Addr, e api.Errno) {
	switch {
	case e != api.OK:
		c.refused++
	case x.tick && len(rose) == 0:
		c.still++
	case x.tick && is < was:
		c.went++
	case x.tick:
		c.rose++
	case !fell:
		c.passed++
	case had:
		c.again++
	case is == was:
		c.pushed++
	default:
		c.fell++
	}
}

// TestModel holds every answer of long mixed scripts against the model's.
func TestModel(t *testing.T) {
	g := source(18)
	var n count
	for run := range 1000 {
		entries, age := 1+g.below(6), int64(1+g.below(100))
		if run%50 == 0 {
			entries = 64
		}
		c, m := made(t, entries, age)
		for range 120 {
			x, was := g.move(m), len(m.list)
			had := m.at(x.dst) >= 0
			fell, rose, e := both(t, c, m, x)
			n.add(x, had, was, len(m.list), fell, rose, e)
			tells(t, c, m)
		}
	}
	n.least(t, 1000)
}

// TestManyDestinations fills caches of every size, up to the greatest, and pushes out of them.
func TestManyDestinations(t *testing.T) {
	g := source(181)
	for entries := 1; entries <= 64; entries++ {
		c, m := made(t, entries, 50)
		for i := range 400 {
			x := move{tick: g.once(8), dst: four(byte(g.below(entries + 4))), first: 1500, mtu: 1400 - g.below(1300), now: int64(i)}
			if g.once(2) {
				x.dst, x.mtu = six(byte(g.below(entries+4))), 1480-g.below(200)
			}
			both(t, c, m, x)
			if l := c.All(); !slices.Equal(l, m.All()) || len(l) > entries {
				t.Fatalf("P18.5: of %d: All() = %v; want %v", entries, l, m.All())
			}
		}
	}
}
