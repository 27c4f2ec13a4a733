package wheel

import (
	"slices"
	"testing"
	"time"

	"mosaic/api"
)

// Two wheels with the same calls ahead: what one tells of a leap, the other tells of steps up to it; and both are alike behind it.
func TestStepsAndLeaps(t *testing.T) {
	g := source(272)
	leaps, many := 0, 0
	for range 1500 {
		now := g.ahead(0)
		a, b := made[int](t, now), made[int](t, now)
		for range 12 {
			fillBoth(t, &g, a, b)
			to := g.ahead(a.Now())
			leapt, e := a.Advance(to)
			stepped, steps := inSteps(t, &g, b, to)
			if e != api.OK || !slices.Equal(leapt, stepped) {
				t.Fatalf("P27.2: to %d a leap tells %v, %d; %d steps %v", to, leapt, e, steps, stepped)
			}
			sameState(t, a, b)
			if len(leapt) > 1 {
				leaps++
			}
			if len(leapt) > 5 && steps > 3 {
				many++
			}
		}
	}
	if leaps < 1000 || many < 1000 {
		t.Errorf("too few: %d, %d", leaps, many)
	}
}

// fillBoth adds and cancels the same in both.
func fillBoth(t *testing.T, g *source, a, b *Wheel[int]) {
	t.Helper()
	for range 1 + g.below(12) {
		at, x := g.ahead(a.Now()), g.below(100)
		n, e := a.Add(at, x)
		m, f := b.Add(at, x)
		if n != m || e != api.OK || f != api.OK {
			t.Fatalf("P27.1: Add(%d) = %d, %d and %d, %d", at, n, e, m, f)
		}
		if g.once(4) {
			id := 1 + g.below(n)
			if a.Cancel(id) != b.Cancel(id) {
				t.Fatalf("P27.2: Cancel(%d) says two things", id)
			}
		}
	}
}

// inSteps goes up to a tick, one behind the other, the same one twice at times.
func inSteps(t *testing.T, g *source, w *Wheel[int], to int64) ([]Due[int], int) {
	t.Helper()
	var all []Due[int]
	for steps := 1; ; steps++ {
		step := to
		switch at, is := w.Next(); {
		case steps > 40:
		case is && at < to && g.once(2):
			step = max(at-int64(g.below(2)), w.Now())
		case !g.once(5):
			step = min(g.ahead(w.Now()), g.ahead(w.Now()), to)
		}
		l, e := w.Advance(step)
		if e != api.OK {
			t.Fatalf("P27.1: Advance(%d) = %d", step, e)
		}
		all = append(all, l...)
		if step == to {
			return all, steps
		}
	}
}

func sameState(t *testing.T, a, b *Wheel[int]) {
	t.Helper()
	n, is := a.Next()
	m, too := b.Next()
	if n != m || is != too || a.Len() != b.Len() || a.Now() != b.Now() {
		t.Fatalf("P27.2: Next() = %d and %d, Len() = %d and %d, Now() = %d and %d", n, m, a.Len(), b.Len(), a.Now(), b.Now())
	}
	for id := range 200 {
		n, is := a.At(id)
		m, too := b.At(id)
		if n != m || is != too {
			t.Fatalf("P27.2: At(%d) = %d, %v and %d, %v", id, n, is, m, too)
		}
	}
}

// Each single tick of a few thousand, across the turns of the digits, against one leap.
func TestEachTick(t *testing.T) {
	g := source(2722)
	for _, now := range []int64{0, 63, 4000, 1<<18 - 2000, 1<<30 - 3000, 1<<36 - 10, last - 5000} {
		a, b := made[int](t, now), made[int](t, now)
		for k := range 400 {
			at := now + int64(g.below(5001))
			adds(t, a, at, k, k+1)
			adds(t, b, at, k, k+1)
		}
		var stepped []Due[int]
		for tick := now; tick <= now+5000; tick++ {
			l, _ := b.Advance(tick)
			for _, d := range l {
				if d.At != tick {
					t.Fatalf("P27.3: at %d told %v", tick, d)
				}
			}
			stepped = append(stepped, l...)
		}
		leapt, _ := a.Advance(now + 5000)
		if len(leapt) != 400 || !slices.Equal(leapt, stepped) {
			t.Fatalf("P27.2: from %d a leap tells %v, steps %v", now, leapt, stepped)
		}
	}
}

// fate is what became of a timer that was added.
type fate struct {
	due             Due[int]
	told, cancelled bool
}

// book is kept of all timers of a wheel, by what its calls answered alone.
type book struct {
	t      *testing.T
	w      *Wheel[int]
	fates  map[int]*fate
	before int // how often one was cancelled ahead of its tick
}

func (b *book) add(at int64, x int) {
	id, e := b.w.Add(at, x)
	if b.fates[id] != nil || e != api.OK {
		b.t.Fatalf("P27.1: Add = %d, %d, which was there", id, e)
	}
	b.fates[id] = &fate{due: Due[int]{id, at, x}}
}

func (b *book) cancel(id int) {
	f := b.fates[id]
	if b.w.Cancel(id) {
		if f == nil || f.told || f.cancelled {
			b.t.Fatalf("P27.3: Cancel(%d) of %+v", id, f)
		}
		f.cancelled = true
		b.before++
	} else if f != nil && !f.told && !f.cancelled {
		b.t.Fatalf("P27.3: Cancel(%d) of one that waits", id)
	}
}

func (b *book) advance(now int64) {
	was := b.w.Now()
	l, e := b.w.Advance(now)
	if e != api.OK {
		b.t.Fatalf("P27.1: Advance(%d) = %d", now, e)
	}
	for i, d := range l {
		f := b.fates[d.ID]
		if f == nil || f.told || f.cancelled || f.due != d {
			b.t.Fatalf("P27.3: told %v, which is %+v", d, f)
		}
		f.told = true
		if d.At < was || d.At > now {
			b.t.Fatalf("P27.3: from %d to %d told %v", was, now, d)
		}
		if i > 0 && (d.At < l[i-1].At || d.At == l[i-1].At && d.ID <= l[i-1].ID) {
			b.t.Fatalf("P27.3: told %v behind %v", d, l[i-1])
		}
	}
	for id, f := range b.fates {
		if !f.told && !f.cancelled && f.due.At <= now {
			b.t.Fatalf("P27.3: at %d number %d, %v, is not told", now, id, f.due)
		}
	}
}

// TestEachOnce keeps a book of what was added, cancelled and told.
func TestEachOnce(t *testing.T) {
	g := source(273)
	told, before := 0, 0
	for range 1000 {
		b := &book{t: t, w: made[int](t, g.ahead(0)), fates: map[int]*fate{}}
		for range 60 {
			switch g.below(4) {
			case 0:
				b.cancel(g.below(len(b.fates) + 2))
			case 1:
				b.advance(min(g.ahead(b.w.Now()), g.ahead(b.w.Now())))
			default:
				b.add(g.ahead(b.w.Now()), g.below(50))
			}
		}
		b.advance(last)
		for id, f := range b.fates {
			if f.told == f.cancelled {
				t.Fatalf("P27.3: number %d, %+v, at the end", id, *f)
			}
			if f.told {
				told++
			}
		}
		before += b.before
	}
	if told < 10000 || before < 1000 {
		t.Errorf("too few: %d, %d", told, before)
	}
}

// inTime fails, if calls do not end: to go through 1<<40 ticks would take many minutes.
func inTime(t *testing.T, calls func()) {
	t.Helper()
	done := make(chan bool)
	go func() {
		defer close(done)
		calls()
	}()
	select {
	case <-done:
	case <-time.After(30 * time.Second):
		t.Fatal("P27.4: calls go through the ticks between")
	}
}

func TestFarLeapsEnd(t *testing.T) {
	inTime(t, func() {
		for range 3000 {
			w := made[int](t, 0)
			adds(t, w, last, 1, 1)
			adds(t, w, 1<<39, 2, 2)
			adds(t, w, last-1, 3, 3)
			next(t, w, 1<<39, true)
			cancels(t, w, 2, true)
			next(t, w, last-1, true)
			tells(t, w, last-2)
			next(t, w, last-1, true)
			tells(t, w, last, Due[int]{3, last - 1, 3}, Due[int]{1, last, 1})
		}
		for range 3000 {
			tells(t, made[int](t, 0), last)
		}
	})
}

// quickest is the least time that an Advance takes from 0 on, with that many timers at the tick.
func quickest(t *testing.T, n int, at, to int64) time.Duration {
	least := time.Hour
	for range 50 {
		w := made[int](t, 0)
		for range n {
			w.Add(at, 0)
		}
		begin := time.Now()
		l, e := w.Advance(to)
		least = min(least, time.Since(begin))
		if len(l) != n || e != api.OK {
			t.Fatalf("P27.1: Advance(%d) = %v, %d", to, l, e)
		}
	}
	return least
}

// The slack is for a machine that does other things too; it is far below what a millionth of the ticks would take.
func TestFarLeapsTakeNoLonger(t *testing.T) {
	for _, n := range []int{0, 1, 100} {
		inTime(t, func() {
			near := quickest(t, n, 1, 1)
			for _, at := range []int64{1, 1 << 20, last} {
				if far := quickest(t, n, at, last); far > 50*near+time.Millisecond {
					t.Errorf("P27.4: with %d timers a leap to the end takes %v, one to the next timer %v", n, far, near)
				}
			}
		})
	}
}
