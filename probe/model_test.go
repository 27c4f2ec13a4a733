package probe

import (
	"math"
	"testing"

	"mosaic/api"
)

// source is a plain generator, so that every run sees the same inputs.
type source uint64

func (s *source) next() uint64 {
	*s ^= *s << 13
	*s ^= *s >> 7
	*s ^= *s << 17
	return uint64(*s)
}

func (s *source) below(n int) int { return int((s.next() >> 11) % uint64(n)) }

// once in n times it says yes.
func (s *source) once(n int) bool { return s.below(n) == 0 }

// pick is one of a list.
func pick[T any](s *source, l ...T) T { return l[s.below(len(l))] }

// What a path perhaps has.
type (
	hint struct {
		is   bool
		size int
		told bool
	}
	way struct {
		is     bool
		number int
		size   int
		tick   int64
	}
)

// model is the chapter's words, sentence by sentence.
type model struct {
	c         api.Probing
	state     int
	low, high int
	hint      hint
	tries     int
	way       way
	losses    int
	since     int64
	number    int
	now       int64
}

func (m *model) floor() int { return map[int]int{4: 68, 6: 1280}[m.c.V] }

func (m *model) isOut(now int64) bool { return now < 0 || now > 1<<40 || now < m.now }

func (m *model) begins(state int) { m.state, m.since = state, m.now }

func (m *model) trial() int {
	switch m.state {
	case 1:
		return m.c.Base
	case 2:
		if m.hint.is {
			return m.hint.size
		}
		if m.high == m.c.Most+1 {
			return m.c.Most
		}
		return m.low + (m.high-m.low)/2
	}
	return 0
}

func (m *model) isLost() {
	size := m.way.size
	m.way = way{}
	m.tries++
	if m.tries != m.c.Tries {
		return
	}
	m.tries = 0
	if m.state == 1 {
		m.begins(4)
	} else if m.state == 2 {
		m.high, m.hint = size, hint{}
		if m.high == m.low+1 {
			m.begins(3)
		}
	}
}

func (m *model) Next(now int64) (int, int, api.Errno) {
	if m.isOut(now) {
		return 0, 0, 1
	}
	m.now = now
	if m.way.is && now-m.way.tick < m.c.Wait {
		return 0, 0, 0
	}
	if m.way.is {
		m.isLost()
	}
	if m.state == 3 && m.low < m.c.Most && now-m.since >= m.c.Raise {
		m.state, m.high, m.hint = 2, m.c.Most+1, hint{}
	}
	if m.state == 4 && now-m.since >= m.c.Raise {
		m.state = 1
	}
	if m.state == 1 || m.state == 2 {
		m.number++
		m.way = way{true, m.number, m.trial(), now}
		return m.way.size, m.way.number, 0
	}
	return 0, 0, 0
}

func (m *model) Acked(probe int, now int64) (bool, api.Errno) {
	if m.isOut(now) {
		return false, 1
	}
	m.now = now
	if !m.way.is || m.way.number != probe {
		return false, 0
	}
	size, of := m.way.size, m.hint
	m.way, m.tries, m.losses, m.hint = way{}, 0, 0, hint{}
	if m.state == 1 {
		m.state, m.low, m.high = 2, m.c.Base, m.c.Most+1
	} else {
		m.low = size
		if of.is && of.told && size < m.high-1 {
			m.hint = hint{is: true, size: size + 1}
		}
	}
	if m.low == m.c.Most || m.high == m.low+1 {
		m.begins(3)
	}
	return true, 0
}

func (m *model) TooBig(probe, mtu int, now int64) (bool, api.Errno) {
	if m.isOut(now) {
		return false, 1
	}
	m.now = now
	if !m.way.is || m.way.number != probe || mtu < m.floor() || mtu >= m.way.size {
		return false, 0
	}
	if m.state == 2 && mtu < m.low {
		return false, 0
	}
	if m.state == 2 && mtu > m.low {
		m.way, m.tries, m.hint = way{}, 0, hint{true, mtu, true}
		return true, 0
	}
	m.isLost()
	return true, 0
}

// counts tells whether a packet of that size, no probe, counts.
func (m *model) counts(size int) bool {
	return (m.state == 2 || m.state == 3) && size > m.c.Base && size <= m.low
}

func (m *model) Got(size int, now int64) api.Errno {
	if m.isOut(now) {
		return 1
	}
	m.now = now
	if m.counts(size) {
		m.losses = 0
	}
	return 0
}

func (m *model) Lost(size int, now int64) (bool, api.Errno) {
	if m.isOut(now) {
		return false, 1
	}
	m.now = now
	if !m.counts(size) {
		return false, 0
	}
	m.losses++
	if m.losses != m.c.Losses {
		return false, 0
	}
	m.state, m.way, m.hint, m.tries, m.losses = 1, way{}, hint{}, 0, 0
	return true, 0
}

func (m *model) Size() int {
	switch m.state {
	case 1:
		return m.c.Base
	case 4:
		return m.floor()
	}
	return m.low
}

// The kinds of a call.
const (
	callNext = iota
	callAcked
	callTooBig
	callGot
	callLost
	callKinds
)

// call is one with its arguments; those that its kind has not are 0.
type call struct {
	kind, probe, size int
	now               int64
}

// answer is all that a call tells, and what can be asked behind it.
type answer struct {
	a, b        int
	yes         bool
	e           api.Errno
	size, state int
}

func (p *Path) does(c call) answer {
	var r answer
	switch c.kind {
	case callNext:
		r.a, r.b, r.e = p.Next(c.now)
	case callAcked:
		r.yes, r.e = p.Acked(c.probe, c.now)
	case callTooBig:
		r.yes, r.e = p.TooBig(c.probe, c.size, c.now)
	case callGot:
		r.e = p.Got(c.size, c.now)
	case callLost:
		r.yes, r.e = p.Lost(c.size, c.now)
	}
	r.size, r.state = p.Size(), p.State()
	return r
}

func (m *model) does(c call) answer {
	var r answer
	switch c.kind {
	case callNext:
		r.a, r.b, r.e = m.Next(c.now)
	case callAcked:
		r.yes, r.e = m.Acked(c.probe, c.now)
	case callTooBig:
		r.yes, r.e = m.TooBig(c.probe, c.size, c.now)
	case callGot:
		r.e = m.Got(c.size, c.now)
	case callLost:
		r.yes, r.e = m.Lost(c.size, c.now)
	}
	r.size, r.state = m.Size(), m.state
	return r
}

// pair is a path with its model.
type pair struct {
	p *Path
	m *model
}

func paired(t *testing.T, c api.Probing) pair {
	t.Helper()
	return pair{made(t, c), &model{c: c, state: 1}}
}

// do makes a call of both.
func (p pair) do(t *testing.T, c call) answer {
	t.Helper()
	was := *p.m
	r, want := p.p.does(c), p.m.does(c)
	if r != want {
		t.Fatalf("P28.1: %+v behind %+v: %+v; want %+v", c, was, r, want)
	}
	return r
}

// probing is a configuration whose numbers are small or at their ends.
func (s *source) probing() api.Probing {
	c := api.Probing{V: pick(s, 4, 6)}
	c.Base = pick(s, 68, 69, 100, 1000, 65500)
	if c.V == 6 {
		c.Base = pick(s, 1280, 1281, 1400, 65500)
	}
	c.Most = min(c.Base+pick(s, 0, 1, 2, 3, 5, 10, s.below(40), s.below(2000), 65535), 65535)
	c.Tries = pick(s, 1, 1, 2, 2, 3, 16)
	c.Losses = pick(s, 1, 2, 2, 3, 64)
	c.Wait = int64(pick(s, 1, 2, 10, 10, 1<<40))
	c.Raise = int64(pick(s, 1, 2, 10, 100, 1<<40))
	return c
}

// later is a tick that may be told: mostly near what something hangs on.
func (s *source) later(m *model) int64 {
	by := pick(s, 0, 0, 0, 1, m.c.Wait-1, m.c.Wait, m.c.Wait+1, m.c.Raise-1, m.c.Raise, m.way.tick+m.c.Wait-m.now, m.since+m.c.Raise-m.now-1, m.since+m.c.Raise-m.now)
	if by < 0 || by > 1000 && !s.once(50) {
		by = 0
	}
	return min(m.now+by, 1<<40)
}

// out is a tick that may not be told.
func (s *source) out(now int64) int64 {
	return pick(s, now-1, -1, 1<<40+1, math.MinInt64, math.MaxInt64)
}

// bytes is a size or an MTU: mostly near one that something hangs on.
func (s *source) bytes(m *model) int {
	if s.once(60) {
		return pick(s, 0, -1, math.MinInt, math.MaxInt, 65535, 65536)
	}
	near := pick(s, m.floor(), m.c.Base, m.c.Most, m.low, m.low, m.high, m.way.size, m.way.size, m.hint.size)
	if s.once(3) && m.way.size > m.low {
		near = m.low + s.below(m.way.size-m.low+1)
	}
	return near + pick(s, -1, 0, 0, 1)
}

// call is one that mostly tells something.
func (s *source) call(m *model) call {
	c := call{kind: pick(s, callNext, callNext, callNext, callNext, callAcked, callTooBig, callTooBig, callTooBig, callGot, callLost, callLost), now: s.later(m)}
	if s.once(30) {
		c.now = s.out(m.now)
	}
	if c.kind == callAcked || c.kind == callTooBig {
		c.probe = m.number
		if s.once(5) {
			c.probe = pick(s, m.number-1, m.number+1, 0, -1, math.MinInt, math.MaxInt)
		}
	}
	if c.kind >= callTooBig {
		c.size = s.bytes(m)
	}
	return c
}

// count tells how often what is rare came about.
type count map[string]int

// see counts what a call was, by the model ahead of it and behind it.
func (c count) see(k call, r answer, was, is *model) {
	tell := func(name string, yes bool) {
		if yes {
			c[name]++
		}
	}
	tell("refused", r.e != 0)
	tell("error", was.state == 1 && is.state == 4)
	tell("base again", was.state == 4 && is.state == 1)
	tell("searched again", was.state == 3 && is.state == 2)
	tell("hole", k.kind == callLost && r.yes)
	tell("hole beside a probe", k.kind == callLost && r.yes && was.way.is)
	tell("done at Most", was.state == 2 && is.state == 3 && is.low == is.c.Most)
	tell("done below high", was.state == 2 && is.state == 3 && is.high == is.low+1)
	tell("done at once", was.state == 1 && is.state == 3)
	tell("done by a message", k.kind == callTooBig && was.state == 2 && is.state == 3)
	tell("hint", k.kind == callTooBig && is.hint.is && is.way != was.way)
	tell("hint of a hint", k.kind == callTooBig && is.hint != was.hint && was.hint.is && is.hint.is)
	tell("hint lost", was.hint.is && !is.hint.is && is.high == was.hint.size && is.high < was.high)
	tell("above a hint", k.kind == callAcked && is.hint.is)
	tell("above what was above", k.kind == callAcked && r.yes && was.hint.is && !was.hint.told)
	tell("lost by low", k.kind == callTooBig && r.yes && is.hint == was.hint && is.state == 2)
	tell("lost in base", k.kind == callTooBig && r.yes && was.state == 1)
	tell("below low", k.kind == callTooBig && !r.yes && was.way.is && k.probe == was.number && k.size >= was.floor() && k.size < was.low && was.state == 2)
	tell("below low in base", k.kind == callTooBig && r.yes && k.size < was.low && was.state == 1)
	tell("late", k.kind == callAcked && r.yes && k.now-was.way.tick >= was.c.Wait)
	tell("losses ended", k.kind == callGot && was.losses > 0 && is.losses == 0)
	tell("losses ended by a probe", k.kind == callAcked && was.losses > 0 && is.losses == 0)
	tell("losses kept", k.kind == callGot && was.losses > 0 && is.losses > 0)
	tell("middle", k.kind == callNext && r.b > 0 && is.state == 2 && r.a < is.c.Most && !is.hint.is)
	tell("waits", k.kind == callNext && r.e == 0 && r.b == 0 && was.way.is && is.way == was.way)
}

func TestModel(t *testing.T) {
	g, c := source(281), count{}
	for range 6000 {
		p := paired(t, g.probing())
		for range 150 {
			k, was := g.call(p.m), *p.m
			c.see(k, p.do(t, k), &was, p.m)
		}
	}
	if len(c) < 25 {
		t.Errorf("not all came about: %v", c)
	}
	for name, n := range c {
		if n < 500 {
			t.Errorf("too few: %s, %d", name, n)
		}
	}
}

// near are all calls that a path so small can tell apart, and some that are refused.
func near(m *model) []call {
	var l []call
	for _, now := range []int64{m.now - 1, m.now, m.now + 1, m.now + 2} {
		l = append(l, call{kind: callNext, now: now})
		for n := max(m.number-1, 0); n <= m.number+1; n++ {
			l = append(l, call{kind: callAcked, probe: n, now: now})
		}
	}
	for size := m.floor() - 1; size <= m.c.Most+1; size++ {
		l = append(l, call{callTooBig, m.number, size, m.now}, call{callGot, 0, size, m.now}, call{callLost, 0, size, m.now})
	}
	return append(l, call{callTooBig, m.number + 1, m.c.Base, m.now}, call{callTooBig, m.number, m.c.Base, m.now - 1}, call{callLost, 0, m.c.Most, m.now + 2}, call{callGot, 0, m.c.Most, m.now - 1})
}

// both is a path and its model at one place of all their scripts.
type both struct {
	p Path
	m model
}

// Every call behind every short script of small paths; a place that two scripts lead to is gone through once.
func TestEveryShortScript(t *testing.T) {
	for _, c := range []api.Probing{
		{V: 4, Base: 68, Most: 68, Tries: 2, Losses: 1, Wait: 1, Raise: 2},
		{V: 4, Base: 69, Most: 70, Tries: 1, Losses: 2, Wait: 2, Raise: 1},
		{V: 4, Base: 68, Most: 71, Tries: 1, Losses: 1, Wait: 1, Raise: 2},
		{V: 4, Base: 69, Most: 72, Tries: 2, Losses: 2, Wait: 2, Raise: 2},
		{V: 4, Base: 70, Most: 75, Tries: 1, Losses: 2, Wait: 1, Raise: 1},
		{V: 6, Base: 1280, Most: 1284, Tries: 2, Losses: 2, Wait: 1, Raise: 2},
		{V: 6, Base: 1281, Most: 1287, Tries: 1, Losses: 3, Wait: 2, Raise: 2},
	} {
		first := paired(t, c)
		line := []both{{*first.p, *first.m}}
		seen := map[both]bool{line[0]: true}
		for i := 0; i < len(line) && i < 20000; i++ {
			for _, k := range near(&line[i].m) {
				at := line[i]
				pair{&at.p, &at.m}.do(t, k)
				if !seen[at] {
					seen[at] = true
					line = append(line, at)
				}
			}
		}
	}
}
