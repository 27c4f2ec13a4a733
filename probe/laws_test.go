package probe

import (
	"testing"

	"mosaic/api"
)

// watch keeps a book of a path by what its calls answered alone.
type watch struct {
	t      *testing.T
	c      api.Probing
	number int
	way    bool // a probe is under way
	size   int  // its size
	sent   int64
	base   bool // Base was acknowledged
	acks   map[int]bool
	was    int // Size behind the last call
	state  int
	rises  int
}

func (w *watch) fatal(k call, r answer) {
	w.t.Helper()
	w.t.Fatalf("P28.2: %+v: %+v; Size was %d, State %d", k, r, w.was, w.state)
}

// sees holds one call against the book.
func (w *watch) sees(k call, r answer) {
	w.t.Helper()
	if r.size < floor(w.c.V) || r.size > w.c.Most {
		w.fatal(k, r)
	}
	switch {
	case r.e != api.OK:
	case k.kind == callNext:
		w.seesNext(k, r)
	case k.kind == callAcked && r.yes != (w.way && k.probe == w.number):
		w.fatal(k, r)
	case k.kind == callAcked && r.yes:
		w.acks[w.size], w.way = true, false
	case r.yes && k.kind == callTooBig && (!w.way || k.probe != w.number):
		w.fatal(k, r)
	case r.yes: // told by a message, or a black hole
		w.way = false
	}
	w.seesSize(k, r)
	w.was, w.state = r.size, r.state
}

func (w *watch) seesNext(k call, r answer) {
	w.t.Helper()
	waits := w.way && k.now-w.sent < w.c.Wait
	if !waits {
		w.way = false
	}
	if r.b == 0 && r.a == 0 {
		return
	}
	if waits || r.b != w.number+1 || r.a < w.c.Base || r.a > w.c.Most {
		w.fatal(k, r)
	}
	w.number, w.size, w.sent, w.way = r.b, r.a, k.now, true
}

func (w *watch) seesSize(k call, r answer) {
	w.t.Helper()
	if r.size > w.c.Base && !w.acks[r.size] {
		w.fatal(k, r)
	}
	if r.size <= w.was {
		return
	}
	w.rises++
	ended := k.kind == callNext && w.state == api.PbError && r.state == api.PbBase && w.was == floor(w.c.V) && r.size == w.c.Base
	if !ended && (k.kind != callAcked || !r.yes || r.size != w.size) {
		w.fatal(k, r)
	}
}

func TestWithinBounds(t *testing.T) {
	g := source(282)
	rises, probes := 0, 0
	for range 4000 {
		c := g.probing()
		p := paired(t, c)
		w := &watch{t: t, c: c, acks: map[int]bool{}, was: c.Base, state: api.PbBase}
		for range 150 {
			k := g.call(p.m)
			w.sees(k, p.do(t, k))
		}
		rises += w.rises
		probes += w.number
	}
	if rises < 5000 || probes < 50000 {
		t.Errorf("too few: %d, %d", rises, probes)
	}
}

// The manners of a way about what is too long for it.
const (
	silent = iota
	telling
	fickle
	manners
)

// settles lets a way carry what has at most m bytes, until the path settles or there were too many probes: how many there were, and the tick.
func settles(t *testing.T, g *source, p *Path, c api.Probing, m, manner int, now int64) (int, int64) {
	t.Helper()
	for sent := 0; ; sent++ {
		size, n, e := p.Next(now)
		if e != api.OK {
			t.Fatalf("P28.1: Next(%d) = %d", now, e)
		}
		if n == 0 || sent > limit(c) {
			return sent, now
		}
		if size <= m {
			acked(t, p, n, now, true)
			continue
		}
		if manner == telling || manner == fickle && g.once(2) {
			tooBig(t, p, n, m, now, true)
			continue
		}
		now = min(now+c.Wait+int64(g.below(2)), end)
	}
}

// limit is how many probes there may be: (Tries + 1) * (b + 3).
func limit(c api.Probing) int {
	b := 0
	for 1<<b < c.Most-c.Base+1 {
		b++
	}
	return (c.Tries + 1) * (b + 3)
}

// settled holds where a path settles.
func settled(t *testing.T, g *source, p *Path, c api.Probing, m, manner int, now int64) int64 {
	t.Helper()
	n, now := settles(t, g, p, c, m, manner, now)
	switch {
	case m < c.Base:
		if n != c.Tries || p.State() != api.PbError || p.Size() != floor(c.V) {
			t.Fatalf("P28.3: %+v, a way of %d, manner %d: behind %d probes State() = %d, Size() = %d", c, m, manner, n, p.State(), p.Size())
		}
	case n > limit(c) || p.State() != api.PbDone || p.Size() != min(m, c.Most):
		t.Fatalf("P28.3: %+v, a way of %d, manner %d: behind %d probes State() = %d, Size() = %d", c, m, manner, n, p.State(), p.Size())
	}
	return now
}

func TestSettles(t *testing.T) {
	g := source(283)
	for _, c := range []api.Probing{
		{V: 4, Base: 68, Most: 68, Tries: 1, Losses: 1, Wait: 1, Raise: 1},
		{V: 4, Base: 100, Most: 101, Tries: 2, Losses: 1, Wait: 1, Raise: 1},
		{V: 4, Base: 100, Most: 102, Tries: 1, Losses: 1, Wait: 3, Raise: 1},
		{V: 4, Base: 500, Most: 1500, Tries: 3, Losses: 1, Wait: 10, Raise: 50},
		{V: 6, Base: 1280, Most: 1500, Tries: 2, Losses: 3, Wait: 10, Raise: 50},
		{V: 6, Base: 1400, Most: 2424, Tries: 16, Losses: 64, Wait: 10, Raise: 50},
	} {
		for m := floor(c.V); m <= c.Most+2; m++ {
			for manner := range manners {
				settled(t, &g, made(t, c), c, m, manner, 0)
			}
		}
	}
}

// A way that carries more later on: the path settles anew, from what it had.
func TestSettlesAnew(t *testing.T) {
	g := source(2832)
	for range 20000 {
		c := g.probing()
		if c.Wait > 1000 || c.Raise > 1000 {
			continue
		}
		p, m, now := made(t, c), c.Base+g.below(c.Most-c.Base+2), int64(0)
		if c.Base > floor(c.V) && g.once(8) {
			m = floor(c.V) + g.below(c.Base-floor(c.V))
		}
		for range 3 {
			now = settled(t, &g, p, c, m, g.below(manners), now)
			if p.Size() == c.Most {
				break
			}
			now += c.Raise
			m = max(m, p.Size()+g.below(c.Most-p.Size()+1))
		}
	}
}

// wandered is a path with its model, somewhere.
func wandered(t *testing.T, g *source) pair {
	t.Helper()
	p := paired(t, g.probing())
	for range g.below(60) {
		p.do(t, g.call(p.m))
	}
	return p
}

// One of two paths with the same calls hears what nobody is asked for: it answers as the other, which is told the tick alone.
func TestNoneIsBelieved(t *testing.T) {
	g := source(284)
	lies := 0
	for range 4000 {
		c := g.probing()
		p, quiet := paired(t, c), made(t, c)
		for range 100 {
			for range g.below(4) {
				k := call{kind: pick(&g, callAcked, callTooBig), probe: p.m.number + pick(&g, -2, -1, 1, 2), size: g.bytes(p.m), now: g.later(p.m)}
				if g.once(3) && !p.m.way.is {
					k.probe = p.m.number
				}
				size, state := p.p.Size(), p.p.State()
				if r := p.p.does(k); r.yes || r.e != api.OK || r.size != size || r.state != state {
					t.Fatalf("P28.4: %+v: %+v; Size was %d, State %d", k, r, size, state)
				}
				p.m.does(k)
				got(t, quiet, 0, k.now)
				lies++
			}
			k := g.call(p.m)
			if r, want := p.do(t, k), quiet.does(k); r != want {
				t.Fatalf("P28.4: %+v: %+v; one that heard no lie: %+v", k, r, want)
			}
		}
	}
	if lies < 100000 {
		t.Errorf("too few: %d", lies)
	}
}

// No message changes what a packet may have, but for the last loss of Base.
func TestNoMessageChangesSize(t *testing.T) {
	g := source(2842)
	fell, kept := 0, 0
	for range 4000 {
		p := paired(t, g.probing())
		losses := 0 // of Base, one behind the other
		for range 100 {
			k, was, state := g.call(p.m), p.p.Size(), p.p.State()
			r := p.do(t, k)
			if k.kind != callTooBig {
				losses = p.m.tries
				continue
			}
			if state == api.PbBase && r.yes {
				losses++
			}
			if state == api.PbBase && losses == p.m.c.Tries {
				if r.state != api.PbError || r.size != floor(p.m.c.V) {
					t.Fatalf("P28.4: %+v: %+v", k, r)
				}
				fell, losses = fell+1, 0
				continue
			}
			if r.size != was {
				t.Fatalf("P28.4: %+v: %+v; Size was %d", k, r, was)
			}
			kept++
		}
	}
	if fell < 1000 || kept < 50000 {
		t.Errorf("too few: %d, %d", fell, kept)
	}
}

// noise is a call that may come between the losses of a black hole.
func (s *source) noise(m *model) call {
	for {
		k := s.call(m)
		if k.kind == callGot && k.size > m.c.Base && k.size <= m.low || k.kind == callAcked && m.way.is && k.probe == m.number {
			continue
		}
		return k
	}
}

func TestBlackHole(t *testing.T) {
	g := source(285)
	holes := 0
	for range 40000 {
		p := wandered(t, &g)
		c := p.m.c
		if p.p.Size() <= c.Base {
			continue
		}
		hole := false
		for n := 0; n < c.Losses && !hole; {
			k := g.noise(p.m)
			if g.once(2) {
				k = call{kind: callLost, size: c.Base + 1 + g.below(p.p.Size()-c.Base), now: g.later(p.m)}
			}
			if k.kind == callLost && k.size > c.Base && k.size <= p.p.Size() && k.now >= p.m.now && k.now <= end {
				n++
			}
			hole = p.do(t, k).yes && k.kind == callLost
		}
		if !hole || p.p.Size() != c.Base || p.p.State() != api.PbBase {
			t.Fatalf("P28.5: %+v: Size() = %d, State() = %d", c, p.p.Size(), p.p.State())
		}
		next(t, p.p, p.m.now, c.Base, p.m.number+1)
		holes++
	}
	if holes < 5000 {
		t.Errorf("too few: %d", holes)
	}
}

// rests lets a path be asked until it is raised, and tells whether it was; what comes in besides may tell nothing.
func rests(t *testing.T, g *source, p pair, since int64, size int) bool {
	t.Helper()
	c := p.m.c
	for range 20 {
		if g.once(2) {
			p.do(t, call{kind: pick(g, callAcked, callTooBig), probe: p.m.number, size: g.bytes(p.m), now: p.m.now})
			p.do(t, call{kind: callGot, size: g.bytes(p.m), now: p.m.now})
		}
		now := min(p.m.now+int64(g.below(int(min(c.Raise, 1<<30))))/4, end)
		if g.once(5) {
			now = min(max(since+c.Raise-1+int64(g.below(3)), p.m.now), end)
		}
		r := p.do(t, call{kind: callNext, now: now})
		if now-since < c.Raise && (r.a != 0 || r.b != 0 || r.e != api.OK) {
			t.Fatalf("P28.6: since %d Next(%d) = %d, %d, %d", since, now, r.a, r.b, r.e)
		}
		if now-since >= c.Raise {
			if r.a != size || r.b == 0 || r.e != api.OK {
				t.Fatalf("P28.6: since %d Next(%d) = %d, %d, %d; want %d", since, now, r.a, r.b, r.e, size)
			}
			return true
		}
	}
	return false
}

func TestRaised(t *testing.T) {
	g := source(286)
	done, failed := 0, 0
	for range 60000 {
		p := paired(t, g.probing())
		state, since := p.p.State(), int64(0)
		for range g.below(60) {
			k := g.call(p.m)
			if r := p.do(t, k); r.state != state {
				state, since = r.state, p.m.now
			}
		}
		switch {
		case state == api.PbDone && p.p.Size() < p.m.c.Most:
			if rests(t, &g, p, since, p.m.c.Most) {
				done++
			}
		case state == api.PbDone:
			if r := p.do(t, call{kind: callNext, now: pick(&g, g.later(p.m), end)}); r.b != 0 || r.state != api.PbDone {
				t.Fatalf("P28.6: at Most: %+v", r)
			}
		case state == api.PbError:
			if rests(t, &g, p, since, p.m.c.Base) {
				failed++
			}
		}
	}
	if done < 1500 || failed < 3000 {
		t.Errorf("too few: %d, %d", done, failed)
	}
}
