package queue

import (
	"math"
	"testing"

	"mosaic/api"
)

func own(x int) int { return x }

func TestNew(t *testing.T) {
	for _, bytes := range []int{math.MinInt, -1 << 32, -1, 0, 1, 131072, 1<<32 - 1, math.MaxInt} {
		for count := -3; count <= 70; count++ {
			news(t, count, bytes, count >= 0 && count <= 64 && bytes >= 0)
		}
		for _, count := range []int{math.MinInt, math.MinInt32, -1 << 32, -64, 1 << 16, 1<<32 + 2, math.MaxInt32, math.MaxInt} {
			news(t, count, bytes, false)
		}
	}
}

// news is a New with a size, and without one.
func news(t *testing.T, count, bytes int, taken bool) {
	t.Helper()
	q, e := New(count, bytes, own)
	if taken != (e == api.OK) || taken != (q != nil) || !taken && e != api.ErrArg {
		t.Errorf("P19.1: New(%d, %d, own) = %v, %d", count, bytes, q, e)
	}
	if q != nil {
		holds(t, q, 0, 0)
		pops(t, q, 0, false)
	}
	if q, e := New[int](count, bytes, nil); q != nil || e != api.ErrArg {
		t.Errorf("P19.1: New(%d, %d, nil) = %v, %d", count, bytes, q, e)
	}
}

// made is a New that is taken, of ints that are their own sizes.
func made(t *testing.T, count, bytes int) *Queue[int] {
	t.Helper()
	q, e := New(count, bytes, own)
	if e != api.OK || q == nil {
		t.Fatalf("P19.1: New(%d, %d, own) = %v, %d", count, bytes, q, e)
	}
	return q
}

func pushes(t *testing.T, q *Queue[int], x int, want bool) {
	t.Helper()
	if ok := q.Push(x); ok != want {
		t.Errorf("P19.2: Push(%d) = %v", x, ok)
	}
}

func pops(t *testing.T, q *Queue[int], want int, is bool) {
	t.Helper()
	if x, ok := q.Pop(); x != want || ok != is {
		t.Errorf("P19.3: Pop() = %d, %v; want %d, %v", x, ok, want, is)
	}
}

func holds(t *testing.T, q *Queue[int], n, bytes int) {
	t.Helper()
	if q.Len() != n || q.Bytes() != bytes {
		t.Errorf("P19.4: Len() = %d, Bytes() = %d; want %d, %d", q.Len(), q.Bytes(), n, bytes)
	}
}

func TestExampleOfTwo(t *testing.T) {
	q := made(t, 2, 10)
	pushes(t, q, 4, true)
	pushes(t, q, 7, false)
	pushes(t, q, 6, true)
	holds(t, q, 2, 10)
	pushes(t, q, 0, false)
	pops(t, q, 4, true)
	pushes(t, q, 0, true)
	pops(t, q, 6, true)
	pops(t, q, 0, true)
	pops(t, q, 0, false)
	holds(t, q, 0, 0)
}

func TestExampleOfSizes(t *testing.T) {
	q := made(t, 3, 5)
	pushes(t, q, -2, true)
	holds(t, q, 1, 0)
	pushes(t, q, 6, false)
	pushes(t, q, 5, true)
	pushes(t, q, 1, false)
	holds(t, q, 2, 5)
	pops(t, q, -2, true)
	holds(t, q, 1, 5)
	pops(t, q, 5, true)
	holds(t, q, 0, 0)
}

func TestExampleOfRefused(t *testing.T) {
	for _, c := range []struct {
		count, bytes int
		size         func(int) int
	}{{-1, 0, own}, {65, 0, own}, {1, -1, own}, {1, 1, nil}} {
		if q, e := New(c.count, c.bytes, c.size); q != nil || e != api.ErrArg {
			t.Errorf("P19.1: New(%d, %d, ..) = %v, %d", c.count, c.bytes, q, e)
		}
	}
}

func TestNoRoomAtAll(t *testing.T) {
	for _, bytes := range []int{0, 1, math.MaxInt} {
		q := made(t, 0, bytes)
		for _, x := range []int{0, -1, 1, math.MinInt, math.MaxInt} {
			pushes(t, q, x, false)
			holds(t, q, 0, 0)
			pops(t, q, 0, false)
		}
	}
}

// Things of no bytes need no bytes' room, but a place.
func TestNoBytes(t *testing.T) {
	for count := range 65 {
		q := made(t, count, 0)
		for i := range count {
			pushes(t, q, 1, false)
			pushes(t, q, -i, true)
			holds(t, q, i+1, 0)
		}
		pushes(t, q, 0, false)
		for i := range count {
			pops(t, q, -i, true)
		}
		pops(t, q, 0, false)
	}
}

// What is too long for the queue is never taken, and is in the way of nothing.
func TestTooLong(t *testing.T) {
	q := made(t, 3, 100)
	for range 5 {
		pushes(t, q, 101, false)
		pushes(t, q, math.MaxInt, false)
		holds(t, q, 0, 0)
	}
	pushes(t, q, 99, true)
	pushes(t, q, 101, false)
	pushes(t, q, 2, false)
	pushes(t, q, 1, true)
	pushes(t, q, 1, false)
	pushes(t, q, 0, true)
	holds(t, q, 3, 100)
	pops(t, q, 99, true)
	pushes(t, q, 100, false)
	pushes(t, q, 99, true)
	holds(t, q, 3, 100)
}

func TestSumsNeverWrap(t *testing.T) {
	// 1 << 62 twice is one above the greatest int: the second does not fit, nor does the third.
	q := made(t, 64, math.MaxInt)
	pushes(t, q, 1<<62, true)
	pushes(t, q, 1<<62, false)
	pushes(t, q, 1<<62, false)
	pushes(t, q, math.MaxInt, false)
	holds(t, q, 1, 1<<62)
	pushes(t, q, 1<<62-1, true)
	for _, x := range []int{1, 2, 1 << 31, 1 << 32, 1 << 62, math.MaxInt} {
		pushes(t, q, x, false)
	}
	holds(t, q, 2, math.MaxInt)
	pushes(t, q, math.MinInt, true)
	pushes(t, q, 0, true)
	holds(t, q, 4, math.MaxInt)
	pops(t, q, 1<<62, true)
	pushes(t, q, 1<<62+1, false)
	pushes(t, q, 1<<62, true)
	holds(t, q, 4, math.MaxInt)

	q = made(t, 3, math.MaxInt)
	pushes(t, q, math.MaxInt, true)
	pushes(t, q, math.MaxInt, false)
	pushes(t, q, -1, true)
	holds(t, q, 2, math.MaxInt)
	pops(t, q, math.MaxInt, true)
	holds(t, q, 1, 0)
}

func TestPopOfNone(t *testing.T) {
	q := made(t, 2, 10)
	for i := range 200 {
		pops(t, q, 0, false)
		pops(t, q, 0, false)
		holds(t, q, 0, 0)
		pushes(t, q, i%11, true)
		holds(t, q, 1, i%11)
		pops(t, q, i%11, true)
	}
}

// Every count, filled to its last place and to its last byte.
func TestEveryBound(t *testing.T) {
	for count := 1; count <= 64; count++ {
		q := made(t, count, 1000)
		for i := range count {
			pushes(t, q, i%3, true)
		}
		pushes(t, q, 0, false)
		pops(t, q, 0, true)
		pushes(t, q, 1001-q.Bytes(), false)
		room := 1000 - q.Bytes()
		pushes(t, q, room, true)
		holds(t, q, count, 1000)
		for i := 1; i < count; i++ {
			pops(t, q, i%3, true)
		}
		pops(t, q, room, true)
		pops(t, q, 0, false)
		holds(t, q, 0, 0)
	}
}

// size is asked once a Push, taken or not, and by nothing else.
func TestSizeIsAskedOnce(t *testing.T) {
	var asked []int
	q, e := New(2, 10, func(x int) int {
		asked = append(asked, x)
		return x
	})
	if e != api.OK || len(asked) != 0 {
		t.Fatalf("P19.1: New = %d, and asked %v", e, asked)
	}
	for i, x := range []int{4, 11, 7, -3, 0, 20, -1} {
		q.Push(x)
		if len(asked) != i+1 || asked[i] != x {
			t.Fatalf("P19.2: behind Push(%d) asked %v", x, asked)
		}
	}
	for range 4 {
		q.Pop()
		q.Len()
		q.Bytes()
	}
	if len(asked) != 7 {
		t.Errorf("P19.2: asked %v", asked)
	}
}

// Every script of six calls on small queues, against the model.
func TestEveryShortScript(t *testing.T) {
	moves := []int{-1, 0, 1, 2, 3}
	for count := range 4 {
		for bytes := range 4 {
			for script := range 6 * 6 * 6 * 6 * 6 * 6 {
				q, m := made(t, count, bytes), &model{count: count, bytes: bytes}
				for range 6 {
					if i := script % 6; i < len(moves) {
						bothPush(t, q, m, moves[i])
					} else {
						bothPop(t, q, m)
					}
					script /= 6
				}
			}
		}
	}
}
