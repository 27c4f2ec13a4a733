package ident

import (
	"math"
	"testing"

	"mosaic/api"
)

// call is one call and what it has to answer.
type call struct {
	busy bool // Busy, else Next
	now  int64
	n    int64
	e    api.Errno
}

func next(now, n int64) call { return call{now: now, n: n} }
func busy(now, n int64) call { return call{busy: true, now: now, n: n} }
func noNext(now int64, e api.Errno) call {
	return call{now: now, e: e}
}
func noBusy(now int64) call { return call{busy: true, now: now, e: api.ErrArg} }

func asked(s *Source, c call) (int64, api.Errno) {
	if c.busy {
		return s.Busy(c.now)
	}
	n, e := s.Next(c.now)
	return int64(n), e
}

func (c call) name() string {
	if c.busy {
		return "Busy"
	}
	return "Next"
}

func hold(t *testing.T, promise string, s *Source, calls ...call) {
	t.Helper()
	for i, c := range calls {
		if n, e := asked(s, c); n != c.n || e != c.e {
			t.Errorf("%s: call %d: %s(%d) = %d, %d; want %d, %d", promise, i, c.name(), c.now, n, e, c.n, c.e)
		}
	}
}

func TestNew(t *testing.T) {
	for _, c := range []struct {
		space, life int64
		e           api.Errno
	}{
		{1, 0, api.OK}, {1, 1, api.OK}, {3, 10, api.OK}, {65536, 60, api.OK},
		{1 << 32, 0, api.OK}, {1, 1 << 32, api.OK}, {1 << 32, 1 << 32, api.OK},
		{0, 5, api.ErrArg}, {-1, 5, api.ErrArg}, {math.MinInt64, 5, api.ErrArg},
		{1<<32 + 1, 5, api.ErrArg}, {math.MaxInt64, 5, api.ErrArg},
		{5, -1, api.ErrArg}, {5, math.MinInt64, api.ErrArg},
		{5, 1<<32 + 1, api.ErrArg}, {5, math.MaxInt64, api.ErrArg},
		{0, -1, api.ErrArg},
	} {
		s, e := New(c.space, c.life)
		if e != c.e || (s != nil) != (c.e == api.OK) {
			t.Errorf("P12.1: New(%d, %d) = %v, %d; want %d", c.space, c.life, s, e, c.e)
		}
	}
}

func TestExamples(t *testing.T) {
	s := made(t, 3, 10)
	hold(t, "P12.1: example 1", s, next(0, 0), next(0, 1), next(4, 2), noNext(4, api.ErrBusy), busy(4, 3), noNext(9, api.ErrBusy), next(10, 0), busy(10, 2), next(10, 1), noNext(10, api.ErrBusy), noNext(13, api.ErrBusy), next(14, 2))
	hold(t, "P12.1: example 2", s, noNext(13, api.ErrArg), noBusy(13), noNext(1<<40+1, api.ErrArg), busy(14, 3))
	hold(t, "P12.1: example 3", made(t, 1, 0), next(5, 0), next(5, 0), busy(5, 0))
	hold(t, "P12.1: example 3", made(t, 1<<32, 5), next(0, 0), next(0, 1))
	hold(t, "P12.1: example 5", made(t, 1, 20), next(20, 0), noNext(30, api.ErrBusy), noNext(25, api.ErrBusy))
}

func TestTicks(t *testing.T) {
	hold(t, "P12.1: nothing given", made(t, 4, 9), busy(0, 0), busy(1<<40, 0), busy(7, 0), busy(0, 0), noBusy(-1), noBusy(math.MinInt64), noBusy(1<<40+1), noBusy(math.MaxInt64), noNext(-1, api.ErrArg), noNext(math.MinInt64, api.ErrArg), noNext(1<<40+1, api.ErrArg), noNext(math.MaxInt64, api.ErrArg), next(0, 0))
	hold(t, "P12.1: the last tick", made(t, 2, 9), next(1<<40, 0), next(1<<40, 1), noNext(1<<40, api.ErrBusy), busy(1<<40, 2), noNext(1<<40-1, api.ErrArg), noBusy(1<<40-1))
	hold(t, "P12.1: the longest life", made(t, 2, 1<<32), next(3, 0), next(4, 1), noNext(1<<32+2, api.ErrBusy), busy(1<<32+2, 2), busy(1<<32+3, 1), busy(1<<32+4, 0), next(1<<32+3, 0), noNext(1<<32+3, api.ErrBusy), next(1<<32+4, 1))
	hold(t, "P12.1: a life of 1", made(t, 1, 1), next(0, 0), noNext(0, api.ErrBusy), busy(0, 1), busy(1, 0), next(1, 0), noNext(1, api.ErrBusy), next(2, 0))
}

// A look at a later tick, or a refused call, may not let the source forget what is busy at the earlier one.
func TestLookingAheadChangesNothing(t *testing.T) {
	s := made(t, 3, 10)
	hold(t, "P12.1: Busy changes nothing", s, next(0, 0), next(5, 1), busy(1<<40, 0), busy(14, 1), busy(9, 2), busy(5, 2), noBusy(4), next(6, 2), busy(1<<40, 0), noNext(6, api.ErrBusy), busy(6, 3))
	hold(t, "P12.1: refused is unchanged", s, noNext(9, api.ErrBusy), noNext(5, api.ErrArg), noNext(1<<40+1, api.ErrArg), busy(6, 3), noNext(6, api.ErrBusy), next(10, 0), noBusy(9), noNext(9, api.ErrArg), busy(10, 3))
}

// disturb asks what may change nothing: looks ahead, and calls that are refused.
func disturb(t *testing.T, r *source, s *Source, last int64) {
	for range r.below(4) {
		s.Busy(last + r.below(100))
		for _, now := range []int64{last - 1 - r.below(5), -1, 1<<40 + 1 + r.below(9)} {
			if n, e := s.Next(now); n != 0 || e != api.ErrArg {
				t.Fatalf("P12.1: Next(%d) = %d, %d behind Next(%d)", now, n, e, last)
			}
		}
	}
}

// A source to which refused calls and looks came answers as one to which none came.
func TestRefusedIsUnchanged(t *testing.T) {
	r := source(77)
	for range 400 {
		space, life, last := 1+r.below(12), r.below(30), int64(0)
		noisy, plain := made(t, space, life), made(t, space, life)
		for range 60 {
			now := last + r.below(4)
			disturb(t, &r, noisy, last)
			got, e := noisy.Next(now)
			if e != api.OK {
				continue
			}
			last = now
			if want, f := plain.Next(now); got != want || f != api.OK {
				t.Fatalf("P12.1: Next(%d) = %d behind refused calls; without them %d, %d", now, got, want, f)
			}
		}
		for now := last; now < last+life+2; now++ {
			got, e := noisy.Busy(now)
			if want, f := plain.Busy(now); got != want || e != f {
				t.Fatalf("P12.1: Busy(%d) = %d, %d behind refused calls; without them %d, %d", now, got, e, want, f)
			}
		}
	}
}

// given is an answer OK of Next.
type given struct {
	now int64
	n   uint32
}

// walk asks Next over and over, at nows that go on by steps below pace, and tells what was given.
func walk(r *source, s *Source, calls int, pace int64) []given {
	var out []given
	now := int64(0)
	for range calls {
		now += r.below(pace)
		if n, e := s.Next(now); e == api.OK {
			out = append(out, given{now, n})
		}
	}
	return out
}

func TestNoneTooSoon(t *testing.T) {
	r := source(2)
	for range 500 {
		space, life := 1+r.below(20), r.below(50)
		last := map[uint32]int64{}
		again := 0
		for _, g := range walk(&r, made(t, space, life), 300, 1+r.below(12)) {
			if at, ok := last[g.n]; ok {
				again++
				if g.now-at < life {
					t.Fatalf("P12.2: space %d, life %d: %d given at %d and at %d", space, life, g.n, at, g.now)
				}
			}
			last[g.n] = g.now
		}
		if life == 0 && again == 0 {
			t.Fatalf("P12.2: space %d, life 0: no number was given twice", space)
		}
	}
}

func TestRound(t *testing.T) {
	r := source(3)
	for range 500 {
		space, life := 1+r.below(20), r.below(50)
		for k, g := range walk(&r, made(t, space, life), 300, 1+r.below(12)) {
			if int64(g.n) != int64(k)%space {
				t.Fatalf("P12.3: space %d, life %d: answer %d is %d", space, life, k, g.n)
			}
		}
	}
	s := made(t, 65536, 1)
	for k := range 3*65536 + 5 {
		if n, e := s.Next(int64(k / 65536)); e != api.OK || n != uint32(k%65536) {
			t.Fatalf("P12.3: space 65536: answer %d is %d, %d", k, n, e)
		}
	}
}

// The end of the greatest space is too far to walk to: the source is set as if it had walked.
func TestRoundOfTheGreatestSpace(t *testing.T) {
	s := made(t, 1<<32, 0)
	s.given = 1<<32 - 2
	hold(t, "P12.3: 1<<32", s, next(9, 1<<32-2), next(9, 1<<32-1), next(9, 0), next(9, 1))
	s = made(t, 1<<32-1, 0)
	s.given = 1<<32 - 3
	hold(t, "P12.3: 1<<32 - 1", s, next(9, 1<<32-3), next(9, 1<<32-2), next(9, 0), next(9, 1))
}

// within counts those that were given within the last life ticks.
func within(l []given, now, life int64) int64 {
	n := int64(0)
	for _, g := range l {
		if now-g.now < life {
			n++
		}
	}
	return n
}

func TestRefusedRightly(t *testing.T) {
	r := source(4)
	refused := 0
	for range 500 {
		space, life := 1+r.below(9), r.below(40)
		s := made(t, space, life)
		var l []given
		now, pace := int64(0), 1+r.below(8)
		for range 120 {
			now += r.below(pace)
			lately := within(l, now, life)
			if b, e := s.Busy(now); b != lately || b > space || e != api.OK {
				t.Fatalf("P12.4: space %d, life %d: Busy(%d) = %d, %d; %d were given lately", space, life, now, b, e, lately)
			}
			n, e := s.Next(now)
			if (e == api.ErrBusy) != (lately == space) || e != api.OK && e != api.ErrBusy {
				t.Fatalf("P12.4: space %d, life %d: Next(%d): %d, where %d were given lately", space, life, now, e, lately)
			}
			if e == api.OK {
				l = append(l, given{now, n})
			} else {
				refused++
			}
		}
		if b, e := s.Busy(now + life); b >= space || e != api.OK {
			t.Fatalf("P12.4: space %d, life %d: Busy = %d, %d behind life ticks without any", space, life, b, e)
		}
	}
	if refused < 1000 {
		t.Errorf("P12.4: only %d were refused", refused)
	}
}

func TestAgain(t *testing.T) {
	r := source(5)
	for range 500 {
		space, life := 1+r.below(9), r.below(40)
		s := made(t, space, life)
		last := int64(0)
		for range 40 {
			for e := api.OK; e == api.OK && r.below(15) > 0; { // up to its being full, mostly
				_, e = s.Next(last)
			}
			last += life + r.below(2)*r.below(9)
			if _, e := s.Next(last); e != api.OK {
				t.Fatalf("P12.5: space %d, life %d: Next(%d): %d", space, life, last, e)
			}
		}
	}
	hold(t, "P12.5: the longest life", made(t, 1, 1<<32), next(1<<40-1<<32, 0), noNext(1<<40-1, api.ErrBusy), next(1<<40, 0), noNext(1<<40, api.ErrBusy))
	hold(t, "P12.5: no such tick", made(t, 1, 1<<32), next(1<<40-1<<32+1, 0), noNext(1<<40, api.ErrBusy), noNext(1<<40+1, api.ErrArg))
}

// Sources that take turns answer as each does alone.
func TestSourcesAreApart(t *testing.T) {
	r := source(6)
	for range 200 {
		var together, alone [4]*Source
		for i := range together {
			space, life := 1+r.below(6), r.below(20)
			if i == 1 { // two of one kind
				space, life = together[0].space, together[0].life
			}
			together[i], alone[i] = made(t, space, life), made(t, space, life)
		}
		var nows, answers [4][]int64
		at := [4]int64{}
		for range 200 {
			i := r.below(4)
			at[i] += r.below(3)
			n, e := together[i].Next(at[i])
			b, _ := together[i].Busy(at[i])
			nows[i] = append(nows[i], at[i])
			answers[i] = append(answers[i], int64(n), int64(e), b)
		}
		for i, s := range alone {
			for k, now := range nows[i] {
				n, e := s.Next(now)
				b, _ := s.Busy(now)
				if want := answers[i][3*k : 3*k+3]; int64(n) != want[0] || int64(e) != want[1] || b != want[2] {
					t.Fatalf("P12.6: alone Next(%d) = %d, %d, Busy %d; beside others %v", now, n, e, b, want)
				}
			}
		}
	}
	a, b := made(t, 2, 10), made(t, 2, 10)
	hold(t, "P12.6", a, next(100, 0), next(100, 1), noNext(100, api.ErrBusy))
	hold(t, "P12.6", b, busy(0, 0), next(0, 0), next(3, 1))
	hold(t, "P12.6", a, noNext(99, api.ErrArg), busy(100, 2))
}
