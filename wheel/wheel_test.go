package wheel

import (
	"math"
	"slices"
	"strconv"
	"testing"

	"mosaic/api"
)

const last = 1 << 40

// made is a New that is taken.
func made[T any](t *testing.T, now int64) *Wheel[T] {
	t.Helper()
	w, e := New[T](now)
	if e != api.OK || w == nil {
		t.Fatalf("P27.1: New(%d) = %v, %d", now, w, e)
	}
	return w
}

func adds[T any](t *testing.T, w *Wheel[T], at int64, x T, want int) {
	t.Helper()
	if id, e := w.Add(at, x); id != want || e != api.OK {
		t.Errorf("P27.1: at %d Add(%d) = %d, %d; want %d", w.Now(), at, id, e, want)
	}
}

func addRefused[T any](t *testing.T, w *Wheel[T], at int64, want api.Errno) {
	t.Helper()
	var x T
	now, n := w.Now(), w.Len()
	if id, e := w.Add(at, x); id != 0 || e != want {
		t.Errorf("P27.1: at %d Add(%d) = %d, %d; want 0, %d", now, at, id, e, want)
	}
	holds(t, w, now, n)
}

func cancels[T any](t *testing.T, w *Wheel[T], id int, want bool) {
	t.Helper()
	if ok := w.Cancel(id); ok != want {
		t.Errorf("P27.1: Cancel(%d) = %v", id, ok)
	}
}

func tells[T comparable](t *testing.T, w *Wheel[T], now int64, want ...Due[T]) {
	t.Helper()
	was := w.Now()
	if l, e := w.Advance(now); e != api.OK || !slices.Equal(l, want) {
		t.Errorf("P27.1: from %d Advance(%d) = %v, %d; want %v", was, now, l, e, want)
	}
	if w.Now() != now {
		t.Errorf("P27.1: behind Advance(%d) Now() = %d", now, w.Now())
	}
}

func advanceRefused[T any](t *testing.T, w *Wheel[T], to int64) {
	t.Helper()
	now, n := w.Now(), w.Len()
	if l, e := w.Advance(to); e != api.ErrArg || len(l) != 0 {
		t.Errorf("P27.1: at %d Advance(%d) = %v, %d", now, to, l, e)
	}
	holds(t, w, now, n)
}

func next[T any](t *testing.T, w *Wheel[T], want int64, is bool) {
	t.Helper()
	if at, ok := w.Next(); at != want || ok != is {
		t.Errorf("P27.1: at %d Next() = %d, %v; want %d, %v", w.Now(), at, ok, want, is)
	}
}

func stands[T any](t *testing.T, w *Wheel[T], id int, want int64, is bool) {
	t.Helper()
	if at, ok := w.At(id); at != want || ok != is {
		t.Errorf("P27.1: at %d At(%d) = %d, %v; want %d, %v", w.Now(), id, at, ok, want, is)
	}
}

func holds[T any](t *testing.T, w *Wheel[T], now int64, n int) {
	t.Helper()
	if w.Now() != now || w.Len() != n {
		t.Errorf("P27.1: Now() = %d, Len() = %d; want %d, %d", w.Now(), w.Len(), now, n)
	}
}

func TestExamples(t *testing.T) {
	type due = Due[string]
	w := made[string](t, 5)
	adds(t, w, 9, "a", 1)
	adds(t, w, 7, "b", 2)
	adds(t, w, 9, "c", 3)
	adds(t, w, 5, "d", 4)
	addRefused(t, w, 4, api.ErrArg)
	next(t, w, 5, true)
	tells(t, w, 5, due{4, 5, "d"})
	tells(t, w, 8, due{2, 7, "b"})
	cancels(t, w, 3, true)
	cancels(t, w, 3, false)
	cancels(t, w, 2, false)
	adds(t, w, 8, "f", 5)
	stands(t, w, 1, 9, true)
	tells(t, w, 100, due{5, 8, "f"}, due{1, 9, "a"})
	holds(t, w, 100, 0)
	next(t, w, 0, false)

	advanceRefused(t, w, 99)
	tells(t, w, 100)
	adds(t, w, 1<<40, "z", 6)
	tells(t, w, 1<<40, due{6, 1 << 40, "z"})
	adds(t, w, 1<<40, "y", 7)
	advanceRefused(t, w, 1<<40+1)
	tells(t, w, 1<<40, due{7, 1 << 40, "y"})
}

func TestNew(t *testing.T) {
	for _, now := range []int64{math.MinInt64, math.MinInt64 + 1, -1 << 40, -1 << 32, -2, -1, last + 1, last + 2, 1 << 41, 1 << 62, math.MaxInt64} {
		if w, e := New[int](now); w != nil || e != api.ErrArg {
			t.Errorf("P27.1: New(%d) = %v, %d", now, w, e)
		}
	}
	for _, now := range edges() {
		w := made[int](t, now)
		holds(t, w, now, 0)
		next(t, w, 0, false)
		stands(t, w, 0, 0, false)
		stands(t, w, 1, 0, false)
		cancels(t, w, 1, false)
		tells(t, w, now)
		adds(t, w, now, 7, 1)
		tells(t, w, now, Due[int]{1, now, 7})
	}
}

// edges are the ticks at which a bit turns over, and those beside them.
func edges() []int64 {
	var l []int64
	for k := range 41 {
		l = append(l, beside(1<<k)...)
	}
	l = append(l, 0, 5, 100, last-64, last-1<<20, 0x5555555555, 0xaaaaaaaaaa, 63<<6|63, 63<<6|62, 62<<6|63, 3<<38-1)
	slices.Sort(l)
	return slices.Compact(l)
}

// turns are those of them at which a digit turns over, whether it has four bits, five, six or eight.
func turns() []int64 {
	l := []int64{0, last}
	for k := range 41 {
		if k%4 == 0 || k%5 == 0 || k%6 == 0 {
			l = append(l, beside(1<<k)...)
		}
	}
	slices.Sort(l)
	return slices.Compact(l)
}

// beside is a tick with its neighbours.
func beside(tick int64) []int64 {
	l := []int64{tick - 1, tick}
	if tick < last {
		l = append(l, tick+1)
	}
	return l
}

func TestAddRefuses(t *testing.T) {
	for _, now := range edges() {
		w := made[int](t, now)
		for _, at := range []int64{math.MinInt64, -1, now - 1, now - 64, last + 1, last + 64, 1 << 41, 1<<62 + now, math.MaxInt64} {
			addRefused(t, w, at, api.ErrArg)
		}
		// No id was used up.
		adds(t, w, last, 0, 1)
		adds(t, w, now, 0, 2)
		next(t, w, now, true)
		advanceRefused(t, w, now-1)
		advanceRefused(t, w, last+1)
		advanceRefused(t, w, math.MinInt64)
		advanceRefused(t, w, math.MaxInt64)
		stands(t, w, 1, last, true)
		stands(t, w, 2, now, true)
	}
}

// One timer, met by one leap and then by another.
func TestOneTimer(t *testing.T) {
	l := turns()
	for i, now := range l {
		for _, at := range l[i:] {
			for _, to := range l[i:] {
				oneTimer(t, now, at, to)
			}
			if t.Failed() {
				t.Fatalf("from %d for %d", now, at)
			}
		}
	}
}

func oneTimer(t *testing.T, now, at, to int64) {
	t.Helper()
	w := made[int8](t, now)
	adds(t, w, at, 3, 1)
	due := Due[int8]{1, at, 3}
	if to >= at {
		tells(t, w, to, due)
		next(t, w, 0, false)
		stands(t, w, 1, 0, false)
		return
	}
	tells(t, w, to)
	next(t, w, at, true)
	stands(t, w, 1, at, true)
	holds(t, w, to, 1)
	tells(t, w, at-1)
	tells(t, w, at, due)
	tells(t, w, last)
}

// One at every edge, from every edge, met by a leap to every edge, and the rest by another.
func TestTwoLeaps(t *testing.T) {
	l := edges()
	for i, now := range l {
		for j := range l[i:] {
			w := made[int](t, now)
			var all []Due[int]
			for k, at := range l[i:] {
				adds(t, w, at, -k, k+1)
				all = append(all, Due[int]{k + 1, at, -k})
			}
			tells(t, w, l[i+j], all[:j+1]...)
			for k, at := range l[i:] {
				if k <= j {
					at = 0
				}
				stands(t, w, k+1, at, k > j)
			}
			tells(t, w, last, all[j+1:]...)
		}
		if t.Failed() {
			t.Fatalf("from %d", now)
		}
	}
}

// One at every edge, added in both orders, told one by one and all at once.
func TestAllEdges(t *testing.T) {
	l := edges()
	for i, now := range l {
		up, down, leap := made[int](t, now), made[int](t, now), made[int](t, now)
		rest := l[i:]
		var all []Due[int]
		for k, at := range rest {
			adds(t, up, at, k, k+1)
			adds(t, leap, rest[len(rest)-1-k], k, k+1)
			adds(t, down, rest[len(rest)-1-k], k, k+1)
			all = append(all, Due[int]{len(rest) - k, at, len(rest) - 1 - k})
		}
		for k, at := range rest {
			next(t, up, at, true)
			tells(t, up, at, Due[int]{k + 1, at, k})
			next(t, down, at, true)
			tells(t, down, at, all[k])
			holds(t, down, at, len(rest)-1-k)
		}
		tells(t, leap, last, all...)
		if t.Failed() {
			t.Fatalf("from %d", now)
		}
	}
}

// Timers of one tick come by their ids, from however far off each was added.
func TestOrderAtOneTick(t *testing.T) {
	for _, at := range edges()[3:] {
		for _, half := range []int64{0, at / 2, at - 2} {
			w := made[int](t, 0)
			var want []Due[int]
			for k, now := range []int64{0, half, at - 1} {
				tells(t, w, now)
				for range 10 {
					id, _ := w.Add(at, k)
					want = append(want, Due[int]{id, at, k})
				}
			}
			tells(t, w, at, want...)
		}
	}
}

func TestCancel(t *testing.T) {
	w := made[string](t, 10)
	for _, id := range []int{math.MinInt, -1, 0, 1, 2, 1 << 32, math.MaxInt} {
		cancels(t, w, id, false)
		stands(t, w, id, 0, false)
	}
	adds(t, w, 20, "a", 1)
	adds(t, w, 20, "b", 2)
	adds(t, w, 20, "c", 3)
	for _, id := range []int{math.MinInt, -1, 0, 4, 1<<32 + 1, math.MaxInt} {
		cancels(t, w, id, false)
	}
	cancels(t, w, 1, true)
	cancels(t, w, 1, false)
	stands(t, w, 1, 0, false)
	next(t, w, 20, true)
	holds(t, w, 10, 2)
	// The id of one that was let go comes never again.
	adds(t, w, 15, "d", 4)
	next(t, w, 15, true)
	cancels(t, w, 4, true)
	next(t, w, 20, true)
	tells(t, w, 25, Due[string]{2, 20, "b"}, Due[string]{3, 20, "c"})
	for id := range 6 {
		cancels(t, w, id, false)
	}
	holds(t, w, 25, 0)
	adds(t, w, 25, "e", 5)
	cancels(t, w, 5, true)
	tells(t, w, 25)
	tells(t, w, last)
}

// Of many in each slot some go, from the front, the middle and the end; behind a leap that moves the others, some more.
func TestCancelSome(t *testing.T) {
	for _, far := range []int64{0, 1, 63, 64, 4096, 1 << 18, 1 << 24, 1 << 30, 1 << 36, 1 << 39} {
		for _, some := range [][]int{{1}, {20}, {7, 8, 9}, {1, 2, 19, 20}, {10, 1, 20}, {2, 4, 6, 8, 10, 12, 14, 16, 18, 20}} {
			w := made[int](t, 77)
			at := 77 + far
			for k := range 20 {
				adds(t, w, at, k, k+1)
			}
			var want []Due[int]
			for k := range 20 {
				if !slices.Contains(some, k+1) {
					want = append(want, Due[int]{k + 1, at, k})
				}
			}
			for i, id := range some {
				if i == 1 && far > 0 {
					tells(t, w, at-1)
				}
				cancels(t, w, id, true)
			}
			tells(t, w, at, want...)
		}
	}
}

func TestFull(t *testing.T) {
	w := made[int](t, 1000)
	for k := range api.MaxTimers {
		adds(t, w, 1000+int64(k%7)*int64(k)*12345, k, k+1)
	}
	holds(t, w, 1000, 4096)
	addRefused(t, w, 1000, api.ErrFull)
	addRefused(t, w, last, api.ErrFull)
	addRefused(t, w, 999, api.ErrArg)
	addRefused(t, w, last+1, api.ErrArg)
	cancels(t, w, 1234, true)
	holds(t, w, 1000, 4095)
	addRefused(t, w, 999, api.ErrArg)
	adds(t, w, 1000, 0, 4097)
	addRefused(t, w, 1000, api.ErrFull)
	// Each seventh one stands at the now, and the one that came last.
	l, e := w.Advance(1000)
	if e != api.OK || len(l) != 587 || l[0].ID != 1 || l[586].ID != 4097 {
		t.Errorf("P27.1: %d are told, %d", len(l), e)
	}
	for k := range 587 {
		adds(t, w, last, 0, 4098+k)
	}
	addRefused(t, w, last, api.ErrFull)
	l, _ = w.Advance(last)
	if len(l) != 4096 || w.Len() != 0 {
		t.Errorf("P27.1: %d are told, %d are left", len(l), w.Len())
	}
	adds(t, w, last, 0, 4685)
}

// More than any number of timers that wait may have waited ahead.
func TestIDsGoOn(t *testing.T) {
	w := made[int](t, 0)
	for id := 1; id <= 100000; id++ {
		adds(t, w, int64(id), id, id)
		switch {
		case id%3 == 0:
			cancels(t, w, id, true)
		case id%3 == 1:
			tells(t, w, int64(id), Due[int]{id, int64(id), id})
		default:
			tells(t, w, int64(id), Due[int]{id, int64(id), id})
			tells(t, w, int64(id))
		}
	}
	holds(t, w, 100000, 0)
}

// The questions may be asked as often as one likes.
func TestAskedTwice(t *testing.T) {
	w := made[int](t, 3)
	adds(t, w, 200, 1, 1)
	adds(t, w, 70, 2, 2)
	for range 3 {
		next(t, w, 70, true)
		stands(t, w, 1, 200, true)
		stands(t, w, 2, 70, true)
		stands(t, w, 3, 0, false)
		holds(t, w, 3, 2)
	}
}

// Things of any type are told as they were handed in.
func TestTypes(t *testing.T) {
	floats := made[float64](t, 0)
	floats.Add(1, math.NaN())
	if l, _ := floats.Advance(1); len(l) != 1 || l[0].X == l[0].X {
		t.Errorf("P27.1: %v", l)
	}
	nothings := made[struct{}](t, 0)
	adds(t, nothings, 1, struct{}{}, 1)
	adds(t, nothings, 0, struct{}{}, 2)
	tells(t, nothings, 9, Due[struct{}]{ID: 2}, Due[struct{}]{ID: 1, At: 1})
	calls := made[func() int](t, 0)
	calls.Add(1, func() int { return 5 })
	calls.Add(1, nil)
	if l, _ := calls.Advance(1); len(l) != 2 || l[0].X() != 5 || l[1].X != nil {
		t.Error("P27.1: functions")
	}
	things := made[any](t, 0)
	adds[any](t, things, 4, nil, 1)
	adds[any](t, things, 4, "x", 2)
	adds[any](t, things, 4, things, 3)
	tells[any](t, things, 4, Due[any]{1, 4, nil}, Due[any]{2, 4, "x"}, Due[any]{3, 4, things})
	wide := made[[1000]int](t, 0)
	x := [1000]int{999: 7}
	adds(t, wide, 4, x, 1)
	x[999] = 8
	if l, _ := wide.Advance(4); len(l) != 1 || l[0].X != [1000]int{999: 7} {
		t.Error("P27.1: an array")
	}
	texts := made[string](t, 0)
	for k := range 100 {
		adds(t, texts, int64(1000-k), strconv.Itoa(k), k+1)
	}
	l, _ := texts.Advance(1000)
	for k, d := range l {
		if d.X != strconv.Itoa(99-k) {
			t.Errorf("P27.1: %v", d)
		}
	}
}
