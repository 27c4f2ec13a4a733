package queue

import (
	"bytes"
	"math"
	"runtime"
	"slices"
	"testing"
	"weak"

	"mosaic/api"
)

func length(b []byte) int { return len(b) }

// lists is a queue of lists, their length their size.
func lists(t *testing.T, count, bytes int) *Queue[[]byte] {
	t.Helper()
	q, e := New(count, bytes, length)
	if e != api.OK {
		t.Fatalf("P19.1: New = %d", e)
	}
	return q
}

// A list comes out with its three words: where it is, how long, and how much room it has; what it leads to is the caller's.
func TestThreeWords(t *testing.T) {
	q := lists(t, 4, 100)
	room := bytes.Repeat([]byte{7}, 20)
	given := room[2:5:9]
	q.Push(given)
	q.Push(nil)
	q.Push([]byte{})
	if !bytes.Equal(room, bytes.Repeat([]byte{7}, 20)) {
		t.Error("P19.6: a list, or the room behind it, was written to")
	}
	got, ok := q.Pop()
	if !ok || len(got) != 3 || cap(got) != 7 || &got[0] != &room[2] {
		t.Errorf("P19.6: Pop() = %v, %v, room for %d", got, ok, cap(got))
	}
	if got, ok := q.Pop(); !ok || got != nil {
		t.Errorf("P19.6: Pop() = %v, %v; want nil", got, ok)
	}
	if got, ok := q.Pop(); !ok || got == nil || len(got) != 0 {
		t.Errorf("P19.6: Pop() = %v, %v; want an empty list", got, ok)
	}
}

// What is written through a list that waits is seen by who pops it, and changes no size.
func TestWhatAListLeadsToIsTheCallers(t *testing.T) {
	q := lists(t, 4, 10)
	b := []byte{1, 2, 3}
	q.Push(b)
	b[1] = 9
	b = append(b[:1], 5)
	if got, ok := q.Pop(); !ok || !slices.Equal(got, []byte{1, 5, 3}) {
		t.Errorf("P19.6: Pop() = %v, %v", got, ok)
	}
}

// Sizes are as they were when the things came.
func TestSizesAreKept(t *testing.T) {
	type thing struct{ size int }
	q, _ := New(4, 10, func(x *thing) int { return x.size })
	a, b := &thing{6}, &thing{3}
	q.Push(a)
	q.Push(b)
	a.size, b.size = 0, 400
	if q.Len() != 2 || q.Bytes() != 9 {
		t.Errorf("P19.4: Len() = %d, Bytes() = %d", q.Len(), q.Bytes())
	}
	if q.Push(&thing{2}) || !q.Push(&thing{1}) {
		t.Error("P19.2: the room that is left is not 1")
	}
	if x, ok := q.Pop(); !ok || x != a || q.Bytes() != 4 {
		t.Errorf("P19.4: Pop() = %v, %v, Bytes() = %d", x, ok, q.Bytes())
	}
	if x, ok := q.Pop(); !ok || x != b || q.Bytes() != 1 {
		t.Errorf("P19.4: Pop() = %v, %v, Bytes() = %d", x, ok, q.Bytes())
	}
}

// Things of any type: those that no two of are alike, those of no bytes, functions, interfaces.
func TestTypes(t *testing.T) {
	floats, _ := New(2, 2, func(float64) int { return 1 })
	floats.Push(math.NaN())
	if x, ok := floats.Pop(); !ok || x == x {
		t.Errorf("P19.3: Pop() = %v, %v", x, ok)
	}
	nothings, _ := New(64, 0, func(struct{}) int { return 0 })
	for i := range 64 {
		if !nothings.Push(struct{}{}) || nothings.Len() != i+1 {
			t.Fatalf("P19.2: the thing number %d", i)
		}
	}
	if nothings.Push(struct{}{}) {
		t.Error("P19.2: one too many")
	}
	calls, _ := New(2, 2, func(func() int) int { return 1 })
	calls.Push(func() int { return 5 })
	calls.Push(nil)
	if f, ok := calls.Pop(); !ok || f() != 5 {
		t.Error("P19.3: a function")
	}
	if f, ok := calls.Pop(); !ok || f != nil {
		t.Error("P19.3: a nil function")
	}
	things, _ := New(3, 3, func(any) int { return 1 })
	things.Push(nil)
	things.Push("x")
	things.Push(things)
	for i, want := range []any{nil, "x", things} {
		if x, ok := things.Pop(); !ok || x != want {
			t.Errorf("P19.3: thing %d is %v, %v", i, x, ok)
		}
	}
	if x, ok := things.Pop(); ok || x != nil {
		t.Errorf("P19.3: Pop() = %v, %v", x, ok)
	}
}

// A line's zero value may also be a thing in it: the bool tells.
func TestZeroIsAThing(t *testing.T) {
	q := made(t, 2, 5)
	pushes(t, q, 0, true)
	pops(t, q, 0, true)
	pops(t, q, 0, false)
}

// A Push that finds no room, a Pop of none, Len and Bytes change nothing.
func TestRefusedAndAskedChangeNothing(t *testing.T) {
	g := source(1951)
	for range 500 {
		n, room := g.below(5), g.bound()
		q, quiet := made(t, n, room), made(t, n, room)
		for range 60 {
			for range g.below(4) {
				if q.Len() == n {
					pushes(t, q, g.thing(q, room), false)
				} else if q.Bytes() < math.MaxInt && room < math.MaxInt {
					pushes(t, q, room-q.Bytes()+1, false)
				}
				if q.Len() == 0 {
					pops(t, q, 0, false)
				}
			}
			x := g.thing(q, room)
			a, b := q.Push(x), quiet.Push(x)
			if g.once(3) {
				y, is := quiet.Pop()
				pops(t, q, y, is)
			}
			if a != b || q.Len() != quiet.Len() || q.Bytes() != quiet.Bytes() {
				t.Fatalf("P19.2: Push(%d) = %v, Len %d, Bytes %d; undisturbed %v, %d, %d", x, a, q.Len(), q.Bytes(), b, quiet.Len(), quiet.Bytes())
			}
		}
	}
}

// Queues that take turns answer as their models do, each for itself.
func TestQueuesAreApart(t *testing.T) {
	g := source(1952)
	for range 200 {
		var queues [4]*Queue[int]
		var models [4]*model
		for i := range queues {
			n, room := g.below(6), g.bound()
			queues[i], models[i] = made(t, n, room), &model{count: n, bytes: room}
		}
		texts, _ := New(3, 9, func(x string) int { return len(x) })
		texts.Push("abc")
		texts.Push("defghi")
		for range 200 {
			i := g.below(4)
			bothPush(t, queues[i], models[i], g.thing(queues[i], models[i].bytes))
			i = g.below(4)
			bothPop(t, queues[i], models[i])
		}
		a, _ := texts.Pop()
		b, _ := texts.Pop()
		if a != "abc" || b != "defghi" || texts.Len() != 0 {
			t.Fatalf("P19.6: %q, %q, Len() = %d", a, b, texts.Len())
		}
	}
}

// Nothing is kept but what waits: not what was popped, not what was dropped, and no room for more than count.
func TestNothingElseIsKept(t *testing.T) {
	q := lists(t, 5, 1000)
	for i := range 20000 {
		q.Push(make([]byte, 1+i%300))
		if i%3 != 0 {
			q.Pop()
		}
		if len(q.line) != q.Len() || cap(q.line) > 16 {
			t.Fatalf("P19.6: %d wait in a line of %d, with room for %d", q.Len(), len(q.line), cap(q.line))
		}
		for _, x := range q.line[len(q.line):cap(q.line)] {
			if x.x != nil || x.size != 0 {
				t.Fatalf("P19.6: behind the line a list of %d bytes is kept", len(x.x))
			}
		}
	}
}

// marked pushes a new list, and tells where it is without holding it.
func marked(q *Queue[*[64]byte]) (weak.Pointer[[64]byte], bool) {
	x := new([64]byte)
	return weak.Make(x), q.Push(x)
}

// What has left the line, and what never came into it, is not held any more, wherever in the line it stood.
func TestWhatLeftIsFree(t *testing.T) {
	q, _ := New(8, 8, func(*[64]byte) int { return 1 })
	var in, out []weak.Pointer[[64]byte]
	for i := range 60 {
		if at, ok := marked(q); ok {
			in = append(in, at)
		} else {
			out = append(out, at)
		}
		if i%3 != 0 {
			q.Pop()
			in, out = in[1:], append(out, in[0])
		}
	}
	runtime.GC()
	for i, at := range out {
		if at.Value() != nil {
			t.Errorf("P19.6: number %d of those that left is still held", i)
		}
	}
	for i, at := range in {
		if x, ok := q.Pop(); !ok || x == nil || at.Value() != x {
			t.Errorf("P19.6: number %d of those that wait is %p, %v", i, x, ok)
		}
	}
}
