package probe

import (
	"math"
	"testing"

	"mosaic/api"
)

// end is the last tick.
const end = int64(1) << 40

// usual is what the chapter's examples are probed with.
var usual = api.Probing{V: 4, Base: 1000, Most: 1500, Tries: 2, Losses: 3, Wait: 10, Raise: 100}

func made(t *testing.T, c api.Probing) *Path {
	t.Helper()
	p, e := New(c)
	if p == nil || e != api.OK {
		t.Fatalf("P28.1: New(%+v) = %v, %d", c, p, e)
	}
	return p
}

func next(t *testing.T, p *Path, now int64, size, number int) {
	t.Helper()
	if s, n, e := p.Next(now); s != size || n != number || e != api.OK {
		t.Fatalf("P28.1: Next(%d) = %d, %d, %d; want %d, %d", now, s, n, e, size, number)
	}
}

func acked(t *testing.T, p *Path, probe int, now int64, want bool) {
	t.Helper()
	if was, e := p.Acked(probe, now); was != want || e != api.OK {
		t.Fatalf("P28.1: Acked(%d, %d) = %v, %d; want %v", probe, now, was, e, want)
	}
}

func tooBig(t *testing.T, p *Path, probe, mtu int, now int64, want bool) {
	t.Helper()
	if was, e := p.TooBig(probe, mtu, now); was != want || e != api.OK {
		t.Fatalf("P28.1: TooBig(%d, %d, %d) = %v, %d; want %v", probe, mtu, now, was, e, want)
	}
}

func lost(t *testing.T, p *Path, size int, now int64, want bool) {
	t.Helper()
	if hole, e := p.Lost(size, now); hole != want || e != api.OK {
		t.Fatalf("P28.1: Lost(%d, %d) = %v, %d; want %v", size, now, hole, e, want)
	}
}

func got(t *testing.T, p *Path, size int, now int64) {
	t.Helper()
	if e := p.Got(size, now); e != api.OK {
		t.Fatalf("P28.1: Got(%d, %d) = %d", size, now, e)
	}
}

func stands(t *testing.T, p *Path, state, size int) {
	t.Helper()
	if p.State() != state || p.Size() != size {
		t.Fatalf("P28.1: State() = %d, Size() = %d; want %d, %d", p.State(), p.Size(), state, size)
	}
}

// searching is a path of which the base was acknowledged at once.
func searching(t *testing.T, c api.Probing) *Path {
	t.Helper()
	p := made(t, c)
	next(t, p, 0, c.Base, 1)
	acked(t, p, 1, 0, true)
	return p
}

// found is a path whose probe of Most, number 2, met a message of that MTU, and that settled there, at tick 0.
func found(t *testing.T, c api.Probing, mtu int) *Path {
	t.Helper()
	p := searching(t, c)
	next(t, p, 0, c.Most, 2)
	tooBig(t, p, 2, mtu, 0, true)
	next(t, p, 0, mtu, 3)
	acked(t, p, 3, 0, true)
	for n := range c.Tries {
		next(t, p, 0, mtu+1, 4+n)
		tooBig(t, p, 4+n, mtu, 0, true)
	}
	stands(t, p, api.PbDone, mtu)
	return p
}

func TestExample1(t *testing.T) {
	p := made(t, usual)
	stands(t, p, api.PbBase, 1000)
	next(t, p, 0, 1000, 1)
	next(t, p, 5, 0, 0)
	acked(t, p, 7, 5, false)
	acked(t, p, 1, 5, true)
	stands(t, p, api.PbSearch, 1000)
	next(t, p, 5, 1500, 2)
	next(t, p, 14, 0, 0)
	next(t, p, 15, 1500, 3)
	next(t, p, 25, 1250, 4)
	acked(t, p, 4, 26, true)
	stands(t, p, api.PbSearch, 1250)
	next(t, p, 26, 1375, 5)
}

func TestExample2(t *testing.T) {
	p := made(t, usual)
	next(t, p, 0, 1000, 1)
	acked(t, p, 1, 5, true)
	next(t, p, 5, 1500, 2)
	tooBig(t, p, 2, 1400, 6, true)
	stands(t, p, api.PbSearch, 1000)
	next(t, p, 6, 1400, 3)
	acked(t, p, 3, 7, true)
	stands(t, p, api.PbSearch, 1400)
	next(t, p, 7, 1401, 4)
	tooBig(t, p, 4, 1400, 8, true)
	stands(t, p, api.PbSearch, 1400)
	next(t, p, 8, 1401, 5)
	tooBig(t, p, 5, 1400, 9, true)
	stands(t, p, api.PbDone, 1400)
	next(t, p, 108, 0, 0)
	next(t, p, 109, 1500, 6)
	stands(t, p, api.PbSearch, 1400)
}

func TestExample3(t *testing.T) {
	p := searching(t, usual)
	next(t, p, 5, 1500, 2)
	tooBig(t, p, 2, 900, 6, false)
	tooBig(t, p, 2, 999, 6, false)
	tooBig(t, p, 2, 1500, 6, false)
	tooBig(t, p, 2, 1501, 6, false)
	tooBig(t, p, 9, 1400, 6, false)
	tooBig(t, p, 1, 1400, 6, false)
	next(t, p, 6, 0, 0)
	stands(t, p, api.PbSearch, 1000)
	q := made(t, usual)
	next(t, q, 0, 1000, 1)
	tooBig(t, q, 1, 1000, 1, false)
	tooBig(t, q, 1, 60, 1, false)
	tooBig(t, q, 1, 67, 1, false)
	tooBig(t, q, 1, 999, 1, true)
	stands(t, q, api.PbBase, 1000)
	next(t, q, 1, 1000, 2)
	tooBig(t, q, 2, 68, 1, true)
	stands(t, q, api.PbError, 68)
}

func TestExample4(t *testing.T) {
	p := made(t, usual)
	next(t, p, 0, 1000, 1)
	next(t, p, 10, 1000, 2)
	next(t, p, 20, 0, 0)
	stands(t, p, api.PbError, 68)
	next(t, p, 119, 0, 0)
	stands(t, p, api.PbError, 68)
	next(t, p, 120, 1000, 3)
	stands(t, p, api.PbBase, 1000)
}

func TestExample5(t *testing.T) {
	p := found(t, usual, 1400)
	lost(t, p, 1400, 1, false)
	lost(t, p, 1200, 1, false)
	lost(t, p, 1000, 1, false)
	got(t, p, 1000, 1)
	stands(t, p, api.PbDone, 1400)
	lost(t, p, 1300, 1, true)
	stands(t, p, api.PbBase, 1000)
	next(t, p, 1, 1000, 6)
}

func TestNew(t *testing.T) {
	for _, c := range []api.Probing{
		usual,
		{V: 4, Base: 68, Most: 68, Tries: 1, Losses: 1, Wait: 1, Raise: 1},
		{V: 4, Base: 68, Most: 65535, Tries: 16, Losses: 64, Wait: end, Raise: end},
		{V: 4, Base: 65535, Most: 65535, Tries: 16, Losses: 1, Wait: 1, Raise: end},
		{V: 6, Base: 1280, Most: 1280, Tries: 1, Losses: 1, Wait: 1, Raise: 1},
		{V: 6, Base: 1280, Most: 65535, Tries: 16, Losses: 64, Wait: end, Raise: 1},
	} {
		p := made(t, c)
		stands(t, p, api.PbBase, c.Base)
		acked(t, p, 0, 0, false)
		acked(t, p, 1, 0, false)
		tooBig(t, p, 0, c.Base-1, 0, false)
		next(t, p, 0, c.Base, 1)
	}
}

func refused(t *testing.T, c api.Probing) {
	t.Helper()
	if p, e := New(c); p != nil || e != api.ErrArg {
		t.Errorf("P28.1: New(%+v) = %v, %d", c, p, e)
	}
}

func TestNewRefuses(t *testing.T) {
	six := usual
	six.V, six.Base = 6, 1280
	for _, c := range []api.Probing{usual, six} {
		least := floor(c.V)
		for _, v := range []int{-4, 0, 1, 5, 7, 46, math.MinInt, math.MaxInt} {
			d := c
			d.V = v
			refused(t, d)
		}
		for _, base := range []int{least - 1, 0, -1, -1000, c.Most + 1, 65536, math.MinInt, math.MaxInt} {
			d := c
			d.Base = base
			refused(t, d)
		}
		for _, most := range []int{c.Base - 1, least - 1, 0, -1500, 65536, math.MinInt, math.MaxInt} {
			d := c
			d.Most = most
			refused(t, d)
		}
		for _, n := range []int{0, -1, -2, 65, 1 << 40, math.MinInt, math.MaxInt} {
			d, f := c, c
			d.Tries, f.Losses = n, n
			refused(t, d)
			refused(t, f)
		}
		for _, n := range []int64{0, -1, -10, end + 1, math.MinInt64, math.MaxInt64} {
			d, f := c, c
			d.Wait, f.Raise = n, n
			refused(t, d)
			refused(t, f)
		}
		d := c
		d.Tries = 17
		refused(t, d)
	}
	refused(t, api.Probing{})
	refused(t, api.Probing{V: 6, Base: 1279, Most: 1500, Tries: 2, Losses: 3, Wait: 10, Raise: 100})
	refused(t, api.Probing{V: 6, Base: 68, Most: 1500, Tries: 2, Losses: 3, Wait: 10, Raise: 100})
	refused(t, api.Probing{V: 4, Base: 65536, Most: 65536, Tries: 2, Losses: 3, Wait: 10, Raise: 100})
}

// refusedAt fails, if a call that is told that tick doesn't answer ErrArg alone.
func refusedAt(t *testing.T, p *Path, probe, size int, now int64) {
	t.Helper()
	if s, n, e := p.Next(now); s != 0 || n != 0 || e != api.ErrArg {
		t.Fatalf("P28.1: Next(%d) = %d, %d, %d", now, s, n, e)
	}
	if was, e := p.Acked(probe, now); was || e != api.ErrArg {
		t.Fatalf("P28.1: Acked(%d, %d) = %v, %d", probe, now, was, e)
	}
	if was, e := p.TooBig(probe, size, now); was || e != api.ErrArg {
		t.Fatalf("P28.1: TooBig(%d, %d, %d) = %v, %d", probe, size, now, was, e)
	}
	if e := p.Got(size, now); e != api.ErrArg {
		t.Fatalf("P28.1: Got(%d, %d) = %d", size, now, e)
	}
	if hole, e := p.Lost(size, now); hole || e != api.ErrArg {
		t.Fatalf("P28.1: Lost(%d, %d) = %v, %d", size, now, hole, e)
	}
}

// Every call with a now sets the last one, also one that tells nothing.
func TestNow(t *testing.T) {
	p := searching(t, usual)
	for i, call := range []func(now int64){
		func(now int64) { next(t, p, now, 1500, 2) },
		func(now int64) { next(t, p, now, 0, 0) },
		func(now int64) { acked(t, p, 1, now, false) },
		func(now int64) { tooBig(t, p, 1, 1400, now, false) },
		func(now int64) { tooBig(t, p, 2, 1400, now, true) },
		func(now int64) { got(t, p, 1, now) },
		func(now int64) { lost(t, p, 1, now, false) },
		func(now int64) { next(t, p, now, 1400, 3) },
		func(now int64) { acked(t, p, 3, now, true) },
		func(now int64) { got(t, p, 1400, now) },
		func(now int64) { lost(t, p, 1400, now, false) },
	} {
		now := int64(i + 1)
		call(now)
		for _, out := range []int64{now - 1, 0, -1, math.MinInt64, end + 1, math.MaxInt64} {
			refusedAt(t, p, 2, 1300, out)
		}
	}
	next(t, p, 11, 1401, 4)
	next(t, p, end, 1401, 5)
	refusedAt(t, p, 5, 1400, end-1)
	acked(t, p, 5, end, true)
	stands(t, p, api.PbSearch, 1401)
}

// Without a probe under way no number is one, 0 and the last one neither.
func TestNoneUnderWay(t *testing.T) {
	p := made(t, usual)
	for n := -2; n < 5; n++ {
		acked(t, p, n, 0, false)
		tooBig(t, p, n, 500, 0, false)
	}
	next(t, p, 0, 1000, 1)
	acked(t, p, 1, 0, true)
	acked(t, p, 1, 0, false)
	next(t, p, 0, 1500, 2)
	tooBig(t, p, 2, 1400, 0, true)
	acked(t, p, 2, 0, false)
	tooBig(t, p, 2, 1300, 0, false)
	next(t, p, 0, 1400, 3)
	next(t, p, 10, 1400, 4)
	for _, n := range []int{3, 2, 1, 0, -1, 5, math.MinInt, math.MaxInt} {
		acked(t, p, n, 10, false)
		tooBig(t, p, n, 1200, 10, false)
	}
	acked(t, p, 4, 10, true)
	stands(t, p, api.PbSearch, 1400)
}

// A probe whose time is over is under way until Next is asked.
func TestLateAnswers(t *testing.T) {
	p := made(t, usual)
	next(t, p, 0, 1000, 1)
	acked(t, p, 1, 5000, true)
	next(t, p, 5000, 1500, 2)
	tooBig(t, p, 2, 1400, 9000, true)
	next(t, p, 9000, 1400, 3)
	acked(t, p, 3, end, true)
	stands(t, p, api.PbSearch, 1400)
}

// Base is the greatest size there is: nothing is left to search for, and nothing to raise.
func TestBaseIsMost(t *testing.T) {
	c := usual
	c.Most = c.Base
	p := searching(t, c)
	stands(t, p, api.PbDone, 1000)
	next(t, p, 0, 0, 0)
	next(t, p, 100, 0, 0)
	next(t, p, end, 0, 0)
	lost(t, p, 1000, end, false)
	stands(t, p, api.PbDone, 1000)
}

// With one size above Base the search has one size to try.
func TestOneAbove(t *testing.T) {
	c := usual
	c.Most = c.Base + 1
	p := searching(t, c)
	next(t, p, 0, 1001, 2)
	tooBig(t, p, 2, 1001, 0, false)
	tooBig(t, p, 2, 999, 0, false)
	tooBig(t, p, 2, 1000, 0, true)
	next(t, p, 0, 1001, 3)
	next(t, p, 10, 0, 0)
	stands(t, p, api.PbDone, 1000)
	next(t, p, 109, 0, 0)
	next(t, p, 110, 1001, 4)
	stands(t, p, api.PbSearch, 1000)
	acked(t, p, 4, 110, true)
	stands(t, p, api.PbDone, 1001)
	next(t, p, 10000, 0, 0)
}

// One above a hint that got through is tried, and behind that one no other such.
func TestAboveAHint(t *testing.T) {
	p := searching(t, usual)
	next(t, p, 0, 1500, 2)
	tooBig(t, p, 2, 1499, 0, true)
	next(t, p, 0, 1499, 3)
	acked(t, p, 3, 0, true)
	next(t, p, 0, 1500, 4)
	next(t, p, 10, 1500, 5)
	next(t, p, 20, 0, 0)
	stands(t, p, api.PbDone, 1499)

	q := searching(t, usual)
	next(t, q, 0, 1500, 2)
	next(t, q, 10, 1500, 3)
	next(t, q, 20, 1250, 4)
	tooBig(t, q, 4, 1249, 20, true)
	next(t, q, 20, 1249, 5)
	tooBig(t, q, 5, 1248, 20, true)
	next(t, q, 20, 1248, 6)
	next(t, q, 30, 1248, 7)
	next(t, q, 40, 1124, 8) // 1248 is held for too long now, and there is no hint
	tooBig(t, q, 8, 1123, 40, true)
	next(t, q, 40, 1123, 9)
	acked(t, q, 9, 40, true)
	next(t, q, 40, 1124, 10)
	acked(t, q, 10, 40, true)
	next(t, q, 40, 1186, 11) // the size above was no message's: no hint behind it
	stands(t, q, api.PbSearch, 1124)
}

// A search ends where no size is left between what gets through and what doesn't.
func TestNarrowSearch(t *testing.T) {
	c := usual
	c.Most, c.Tries = 1010, 1
	p := searching(t, c)
	next(t, p, 0, 1010, 2)
	next(t, p, 10, 1005, 3)
	acked(t, p, 3, 10, true)
	next(t, p, 10, 1007, 4)
	next(t, p, 20, 1006, 5)
	tooBig(t, p, 5, 1005, 20, true)
	stands(t, p, api.PbDone, 1005)

	q := searching(t, c)
	next(t, q, 0, 1010, 2)
	tooBig(t, q, 2, 1008, 0, true)
	next(t, q, 0, 1008, 3)
	next(t, q, 10, 1004, 4)
	acked(t, q, 4, 10, true)
	next(t, q, 10, 1006, 5)
	acked(t, q, 5, 10, true)
	next(t, q, 10, 1007, 6)
	acked(t, q, 6, 10, true)
	stands(t, q, api.PbDone, 1007)
}

// A hint takes the tries of the size ahead of it with it.
func TestTriesOfAHint(t *testing.T) {
	c := usual
	c.Tries = 3
	p := searching(t, c)
	next(t, p, 0, 1500, 2)
	next(t, p, 10, 1500, 3)
	next(t, p, 20, 1500, 4)
	tooBig(t, p, 4, 1400, 20, true)
	next(t, p, 20, 1400, 5)
	next(t, p, 30, 1400, 6)
	tooBig(t, p, 6, 1000, 30, true) // as much as is known: no hint, but lost
	next(t, p, 30, 1400, 7)
	tooBig(t, p, 7, 1300, 30, true)
	next(t, p, 30, 1300, 8)
	next(t, p, 40, 1300, 9)
	next(t, p, 50, 1300, 10)
	next(t, p, 60, 1150, 11)
	stands(t, p, api.PbSearch, 1000)
}

// In PbBase a message tells of no size: it is a loss, whatever was known once.
func TestToldInBase(t *testing.T) {
	p := found(t, usual, 1400)
	for range 2 {
		lost(t, p, 1400, 1, false)
	}
	lost(t, p, 1400, 1, true)
	stands(t, p, api.PbBase, 1000)
	next(t, p, 1, 1000, 6)
	tooBig(t, p, 6, 70, 1, true)
	stands(t, p, api.PbBase, 1000)
	next(t, p, 1, 1000, 7)
	acked(t, p, 7, 1, true)
	stands(t, p, api.PbSearch, 1000)
	next(t, p, 1, 1500, 8)
	next(t, p, 11, 1500, 9)
	next(t, p, 21, 1250, 10) // the loss of Base was not counted with those
}

// A hole takes the probe under way, its tries and its hint with it.
func TestHoleInSearch(t *testing.T) {
	p := searching(t, usual)
	next(t, p, 0, 1500, 2)
	tooBig(t, p, 2, 1400, 0, true)
	next(t, p, 0, 1400, 3)
	acked(t, p, 3, 0, true)
	next(t, p, 0, 1401, 4)
	next(t, p, 10, 1401, 5)
	lost(t, p, 1400, 10, false)
	lost(t, p, 1001, 10, false)
	lost(t, p, 1401, 10, false)
	lost(t, p, 1000, 10, false)
	stands(t, p, api.PbSearch, 1400)
	lost(t, p, 1002, 10, true)
	stands(t, p, api.PbBase, 1000)
	acked(t, p, 5, 10, false)
	tooBig(t, p, 5, 900, 10, false)
	for range 5 {
		lost(t, p, 1400, 10, false)
	}
	next(t, p, 10, 1000, 6)
	next(t, p, 20, 1000, 7)
	acked(t, p, 7, 20, true)
	next(t, p, 20, 1500, 8)
}

// What arrives begins the count of losses anew, if it is above Base and at most Size.
func TestGot(t *testing.T) {
	p := found(t, usual, 1400)
	for _, size := range []int{1001, 1200, 1400} {
		lost(t, p, 1300, 1, false)
		lost(t, p, 1300, 1, false)
		got(t, p, size, 1)
		lost(t, p, 1300, 1, false)
		lost(t, p, 1300, 1, false)
		got(t, p, size, 1)
	}
	lost(t, p, 1300, 1, false)
	lost(t, p, 1300, 1, false)
	for _, size := range []int{1000, 999, 1401, 1500, 0, -1, -1200, math.MinInt, math.MaxInt} {
		got(t, p, size, 1)
		lost(t, p, size, 1, false)
	}
	lost(t, p, 1300, 1, true)
	stands(t, p, api.PbBase, 1000)
}

// A probe that arrives begins the count of losses anew too, and one that is lost does not.
func TestAckedEndsLosses(t *testing.T) {
	p := found(t, usual, 1400)
	lost(t, p, 1400, 1, false)
	lost(t, p, 1400, 1, false)
	next(t, p, 100, 1500, 6)
	tooBig(t, p, 6, 1450, 100, true)
	next(t, p, 100, 1450, 7)
	acked(t, p, 6, 100, false)
	acked(t, p, 7, 100, true)
	stands(t, p, api.PbSearch, 1450)
	lost(t, p, 1450, 100, false)
	lost(t, p, 1450, 100, false)
	next(t, p, 100, 1451, 8)
	next(t, p, 110, 1451, 9)
	next(t, p, 120, 0, 0)
	stands(t, p, api.PbDone, 1450)
	lost(t, p, 1450, 120, true)
}

// Neither in PbBase nor in PbError are losses counted.
func TestNoHoleInBaseAndError(t *testing.T) {
	p := made(t, usual)
	for range 4 {
		lost(t, p, 1000, 0, false)
		lost(t, p, 1400, 0, false)
	}
	next(t, p, 0, 1000, 1)
	next(t, p, 10, 1000, 2)
	next(t, p, 20, 0, 0)
	for range 4 {
		lost(t, p, 68, 20, false)
		lost(t, p, 1400, 20, false)
	}
	stands(t, p, api.PbError, 68)
	next(t, p, 120, 1000, 3)
	acked(t, p, 3, 120, true)
	next(t, p, 120, 1500, 4)
	acked(t, p, 4, 120, true)
	lost(t, p, 1500, 120, false)
	lost(t, p, 1500, 120, false)
	lost(t, p, 1500, 120, true)
}
