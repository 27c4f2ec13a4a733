package queue

import (
	"math"
	"math/big"
	"testing"
)

// source is a plain generator, so that every run sees the same inputs.
type source uint64

func (s *source) next() uint64 {
	*s ^= *s << 13
	*s ^= *s >> 7
	*s ^= *s << 17
	return uint64(*s)
}

func (s *source) below(n int) int { return int((s.next() >> 11) % uint64(n)) }

// once in n times it says yes.
func (s *source) once(n int) bool { return s.below(n) == 0 }

// model is the chapter's words over all that was ever taken: what waits is what has not been popped.
type model struct {
	count, bytes int
	taken        []int
	popped       int
}

func (m *model) waiting() []int { return m.taken[m.popped:] }

// sum has no bound at which it could wrap.
func (m *model) sum() *big.Int {
	n := new(big.Int)
	for _, x := range m.waiting() {
		n.Add(n, sized(x))
	}
	return n
}

func sized(x int) *big.Int {
	if x < 0 {
		return new(big.Int)
	}
	return big.NewInt(int64(x))
}

// why says what keeps x out; "": nothing.
func (m *model) why(x int) string {
	if len(m.waiting()) == m.count {
		return "count"
	}
	if n := m.sum(); n.Add(n, sized(x)).Cmp(big.NewInt(int64(m.bytes))) > 0 {
		return "bytes"
	}
	return ""
}

func (m *model) push(x int) string {
	why := m.why(x)
	if why == "" {
		m.taken = append(m.taken, x)
	}
	return why
}

func (m *model) pop() (int, bool) {
	if m.popped == len(m.taken) {
		return 0, false
	}
	m.popped++
	return m.taken[m.popped-1], true
}

// alike holds what a queue holds against its model, and both against their bounds.
func alike(t *testing.T, q *Queue[int], m *model) {
	t.Helper()
	n, sum := len(m.taken)-m.popped, m.sum()
	if q.Len() != n || big.NewInt(int64(q.Bytes())).Cmp(sum) != 0 {
		t.Fatalf("P19.4: Len() = %d, Bytes() = %d; want %d, %d", q.Len(), q.Bytes(), n, sum)
	}
	if q.Len() > m.count || q.Bytes() > m.bytes || q.Bytes() < 0 {
		t.Fatalf("P19.5: Len() = %d of %d, Bytes() = %d of %d", q.Len(), m.count, q.Bytes(), m.bytes)
	}
}

// bothPush on the queue and on its model, and hold the answers against each other.
func bothPush(t *testing.T, q *Queue[int], m *model, x int) string {
	t.Helper()
	why := m.push(x)
	if ok := q.Push(x); ok != (why == "") {
		t.Fatalf("P19.2: Push(%d) = %v, where %d wait of %d, %d bytes of %d", x, ok, len(m.waiting()), m.count, m.sum(), m.bytes)
	}
	alike(t, q, m)
	return why
}

func bothPop(t *testing.T, q *Queue[int], m *model) bool {
	t.Helper()
	x, ok := q.Pop()
	if want, is := m.pop(); x != want || ok != is {
		t.Fatalf("P19.3: Pop() = %d, %v; want %d, %v", x, ok, want, is)
	}
	alike(t, q, m)
	return ok
}

// bound is small, usual, or as great as an int can be.
func (s *source) bound() int {
	switch s.below(4) {
	case 0:
		return s.below(8)
	case 1:
		return s.below(131073)
	case 2:
		return int(s.next() >> 1)
	}
	return math.MaxInt - s.below(3)
}

// thing is mostly one for which there may be room, near the edge of it, or past any.
func (s *source) thing(q *Queue[int], bytes int) int {
	switch s.below(8) {
	case 0:
		return -s.below(1000)
	case 1:
		return math.MinInt + s.below(3)
	case 2:
		return math.MaxInt - s.below(3)
	case 3: // just what is left, or one more; past the greatest int it is the least one
		return bytes - q.Bytes() + s.below(2)
	case 4:
		return 1 << s.below(63)
	}
	return int(s.next()>>1) % (bytes/4 + 2)
}

// count is how often a script came to what it is there for.
type count struct {
	taken, full, long, popped, none, last int
}

func (c *count) least(t *testing.T, n int) {
	t.Helper()
	if min(c.taken, c.full, c.long, c.popped, c.none, c.last) < n {
		t.Errorf("too few of a kind: %+v", *c)
	}
}

func (c *count) pushed(why string, q *Queue[int], bytes int) {
	switch why {
	case "count":
		c.full++
		return
	case "bytes":
		c.long++
		return
	}
	c.taken++
	if q.Bytes() == bytes && bytes > 0 {
		c.last++
	}
}

// TestModel holds every answer of long mixed scripts against the model's.
func TestModel(t *testing.T) {
	g := source(19)
	var c count
	for run := range 2000 {
		n, bytes := g.below(7), g.bound()
		if run%20 == 0 {
			n = 64 - g.below(2)
		}
		q, m := made(t, n, bytes), &model{count: n, bytes: bytes}
		alike(t, q, m)
		// Some scripts mostly push, some mostly pop.
		rare := 1 + g.below(3)
		for range 200 {
			if !g.once(1 + rare) {
				c.pushed(bothPush(t, q, m, g.thing(q, bytes)), q, bytes)
			} else if bothPop(t, q, m) {
				c.popped++
			} else {
				c.none++
			}
		}
	}
	c.least(t, 1000)
}

// Each thing has a number, so that one which comes twice, or in another's place, shows.
type numbered struct{ number, size int }

// TestOrder asks of what comes out whether it is what was taken, each once and in turn.
func TestOrder(t *testing.T) {
	g := source(195)
	taken := 0
	for range 300 {
		bytes := 1 + g.below(50)
		q, _ := New(1+g.below(64), bytes, func(x numbered) int { return x.size })
		var in, out []numbered
		for i := range 400 {
			x := numbered{i, g.below(bytes + 2)}
			if g.once(2) {
				x.size = 0
			}
			if q.Push(x) {
				in = append(in, x)
			}
			for range g.below(3) {
				if x, ok := q.Pop(); ok {
					out = append(out, x)
				}
			}
			if q.Len() != len(in)-len(out) {
				t.Fatalf("P19.5: Len() = %d, %d were taken and %d popped", q.Len(), len(in), len(out))
			}
		}
		for x, ok := q.Pop(); ok; x, ok = q.Pop() {
			out = append(out, x)
		}
		sameLine(t, in, out)
		taken += len(in)
	}
	if taken < 10000 {
		t.Errorf("only %d were taken", taken)
	}
}

func sameLine(t *testing.T, in, out []numbered) {
	t.Helper()
	if len(in) != len(out) {
		t.Fatalf("P19.5: %d were taken, %d came", len(in), len(out))
	}
	for i := range in {
		if in[i] != out[i] {
			t.Fatalf("P19.5: number %d came as %+v, was %+v", i, out[i], in[i])
		}
	}
}
