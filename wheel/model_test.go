package wheel

import (
	"math"
	"slices"
	"testing"

	"mosaic/api"
)

// source is a plain generator, so that every run sees the same inputs.
type source uint64

func (s *source) next() uint64 {
	*s ^= *s << 13
	*s ^= *s >> 7
	*s ^= *s << 17
	return uint64(*s)
}

func (s *source) below(n int) int { return int((s.next() >> 11) % uint64(n)) }

// once in n times it says yes.
func (s *source) once(n int) bool { return s.below(n) == 0 }

// model is the chapter's words over a plain list of what waits, in the order in which it was added.
type model struct {
	now   int64
	ever  int
	waits []Due[int]
}

func (m *model) isOut(tick int64) bool { return tick < m.now || tick > 1<<40 }

func (m *model) Add(at int64, x int) (int, api.Errno) {
	if m.isOut(at) {
		return 0, api.ErrArg
	}
	if len(m.waits) == 4096 {
		return 0, api.ErrFull
	}
	m.ever++
	m.waits = append(m.waits, Due[int]{m.ever, at, x})
	return m.ever, api.OK
}

// of is where the timer of an id stands; -1: it doesn't wait.
func (m *model) of(id int) int {
	return slices.IndexFunc(m.waits, func(d Due[int]) bool { return d.ID == id })
}

func (m *model) Cancel(id int) bool {
	i := m.of(id)
	if i >= 0 {
		m.waits = slices.Delete(m.waits, i, i+1)
	}
	return i >= 0
}

// least is where the first one stands, in the order of timers; of one at the list's front the id is the least.
func (m *model) least() int {
	first := -1
	for i, d := range m.waits {
		if first < 0 || d.At < m.waits[first].At {
			first = i
		}
	}
	return first
}

func (m *model) Advance(now int64) ([]Due[int], api.Errno) {
	if m.isOut(now) {
		return nil, api.ErrArg
	}
	m.now = now
	var out []Due[int]
	for i := m.least(); i >= 0 && m.waits[i].At <= now; i = m.least() {
		out = append(out, m.waits[i])
		m.waits = slices.Delete(m.waits, i, i+1)
	}
	return out, api.OK
}

func (m *model) Next() (int64, bool) {
	if i := m.least(); i >= 0 {
		return m.waits[i].At, true
	}
	return 0, false
}

func (m *model) At(id int) (int64, bool) {
	if i := m.of(id); i >= 0 {
		return m.waits[i].At, true
	}
	return 0, false
}

// pair is a wheel with its model.
type pair struct {
	w *Wheel[int]
	m *model
}

func paired(t *testing.T, now int64) pair {
	t.Helper()
	return pair{made[int](t, now), &model{now: now}}
}

// asked holds what is told without a change.
func (p pair) asked(t *testing.T) {
	t.Helper()
	if p.w.Now() != p.m.now || p.w.Len() != len(p.m.waits) {
		t.Fatalf("P27.1: Now() = %d, Len() = %d; want %d, %d", p.w.Now(), p.w.Len(), p.m.now, len(p.m.waits))
	}
	at, ok := p.w.Next()
	if want, is := p.m.Next(); at != want || ok != is {
		t.Fatalf("P27.1: at %d Next() = %d, %v; want %d, %v", p.m.now, at, ok, want, is)
	}
}

func (p pair) add(t *testing.T, at int64, x int) api.Errno {
	t.Helper()
	id, e := p.w.Add(at, x)
	if want, f := p.m.Add(at, x); id != want || e != f {
		t.Fatalf("P27.1: at %d Add(%d) = %d, %d; want %d, %d", p.m.now, at, id, e, want, f)
	}
	p.asked(t)
	return e
}

func (p pair) cancel(t *testing.T, id int) bool {
	t.Helper()
	p.at(t, id)
	ok := p.w.Cancel(id)
	if want := p.m.Cancel(id); ok != want {
		t.Fatalf("P27.1: at %d Cancel(%d) = %v", p.m.now, id, ok)
	}
	p.at(t, id)
	p.asked(t)
	return ok
}

func (p pair) at(t *testing.T, id int) {
	t.Helper()
	at, ok := p.w.At(id)
	if want, is := p.m.At(id); at != want || ok != is {
		t.Fatalf("P27.1: at %d At(%d) = %d, %v; want %d, %v", p.m.now, id, at, ok, want, is)
	}
}

func (p pair) advance(t *testing.T, now int64) (int, api.Errno) {
	t.Helper()
	was := p.m.now
	l, e := p.w.Advance(now)
	if want, f := p.m.Advance(now); e != f || !slices.Equal(l, want) {
		t.Fatalf("P27.1: from %d Advance(%d) = %v, %d; want %v, %d", was, now, l, e, want, f)
	}
	p.asked(t)
	return len(l), e
}

// ahead is a tick from now on: near, far by so many bits, at the edge of a digit, or the last one.
func (s *source) ahead(now int64) int64 {
	k := s.below(41)
	switch s.below(8) {
	case 0:
		return now
	case 1:
		return min(now+int64(s.below(4)), last)
	case 2:
		return min(now+int64(s.below(200)), last)
	case 3: // all digits up to one of them full, or just turned over
		return min((now|(1<<k-1))+int64(s.below(2)), last)
	case 4:
		return max(min(now+1<<k+int64(s.below(3))-1, last), now)
	case 5:
		return last - int64(s.next()%uint64(min(last-now, 100)+1))
	}
	return min(now+int64(s.next()%(1<<k)), last)
}

// out is a tick that is refused.
func (s *source) out(now int64) int64 {
	switch s.below(4) {
	case 0:
		return now - 1
	case 1:
		return last + 1 + int64(s.below(100))
	case 2:
		return -int64(s.next() >> 1)
	}
	return math.MaxInt64 - int64(s.below(1000))
}

// name is an id of one that waits, mostly, or of one that does no more, or never did.
func (s *source) name(m *model) int {
	if len(m.waits) > 0 && !s.once(4) {
		return m.waits[s.below(len(m.waits))].ID
	}
	return s.below(m.ever+3) - 1
}

// count is how often a script came to what it is there for.
type count struct {
	added, refused, full, gone, none, back, told, many int
}

func (c *count) least(t *testing.T, n int) {
	t.Helper()
	if min(c.added, c.refused, c.full, c.gone, c.none, c.back, c.told, c.many) < n {
		t.Errorf("too few of a kind: %+v", *c)
	}
}

func (c *count) adds(e api.Errno) {
	switch e {
	case api.OK:
		c.added++
	case api.ErrArg:
		c.refused++
	case api.ErrFull:
		c.full++
	}
}

func (c *count) advances(n int, e api.Errno) {
	if e != api.OK {
		c.back++
	}
	if n > 0 {
		c.told++
	}
	if n > 5 {
		c.many++
	}
}

func (c *count) cancels(ok bool) {
	if ok {
		c.gone++
	} else {
		c.none++
	}
}

// do one call, of which the adds are so many of ten.
func (p pair) do(t *testing.T, g *source, c *count, adds int) {
	t.Helper()
	switch {
	case g.once(15):
		at := g.out(p.m.now)
		c.adds(p.add(t, at, 0))
		c.advances(p.advance(t, at))
	case g.below(10) < adds:
		c.adds(p.add(t, g.ahead(p.m.now), g.below(1000)))
	case g.once(3):
		c.cancels(p.cancel(t, g.name(p.m)))
	case g.once(4):
		// To just where one waits, or just ahead of it.
		at, _ := p.m.At(g.name(p.m))
		c.advances(p.advance(t, max(at-int64(g.below(2)), p.m.now)))
	default:
		c.advances(p.advance(t, min(g.ahead(p.m.now), g.ahead(p.m.now), g.ahead(p.m.now))))
	}
}

// TestModel holds every answer of long mixed scripts against the model's.
func TestModel(t *testing.T) {
	g := source(27)
	var c count
	for range 4000 {
		now := g.ahead(0)
		if g.once(2) {
			now = int64(g.below(5000))
		}
		p := paired(t, now)
		p.asked(t)
		adds := 3 + g.below(6)
		for range 60 {
			p.do(t, &g, &c, adds)
		}
		p.advance(t, last)
	}
	c.full = 1000 // see TestModelOfFull
	c.least(t, 1000)
}

// TestModelOfFull does the same where as many wait as may, or nearly.
func TestModelOfFull(t *testing.T) {
	g := source(2704)
	var c count
	for range 5 {
		p := paired(t, g.ahead(0)/2)
		for range 100 {
			for len(p.m.waits) < 4096 {
				c.adds(p.add(t, g.ahead(p.m.now), g.below(1000)))
			}
			c.adds(p.add(t, g.ahead(p.m.now), 0))
			c.adds(p.add(t, g.out(p.m.now), 0))
			for range g.below(4) {
				c.cancels(p.cancel(t, g.name(p.m)))
			}
			if g.once(3) {
				at, _ := p.m.Next()
				c.advances(p.advance(t, at+int64(g.below(2))))
			}
		}
		p.advance(t, p.m.now+int64(g.below(1000)))
	}
	if min(c.full, c.refused) != 500 || min(c.added, c.gone) < 500 || min(c.told, c.many) < 100 {
		t.Errorf("too few of a kind: %+v", c)
	}
}

// Every script of five calls of a few kinds, from a few nows, and a leap to the end.
func TestEveryShortScript(t *testing.T) {
	const kinds = 9
	for _, now := range []int64{62, 1<<18 - 2} {
		for script := range kinds * kinds * kinds * kinds * kinds {
			p := paired(t, now)
			for range 5 {
				shortMove(t, p, script%kinds)
				script /= kinds
			}
			p.advance(t, last)
		}
	}
}

func shortMove(t *testing.T, p pair, kind int) {
	t.Helper()
	switch kind {
	case 0, 1, 2, 3:
		p.add(t, p.m.now+[]int64{0, 1, 2, 65}[kind], kind)
	case 4:
		p.cancel(t, 1)
	case 5:
		p.cancel(t, p.m.ever)
	case 6, 7, 8:
		p.advance(t, p.m.now+[]int64{0, 1, 64}[kind-6])
	}
}
