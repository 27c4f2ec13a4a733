package holes

import (
	"slices"
	"testing"

	"mosaic/api"
)

// source is a plain generator, so that every run sees the same inputs.
type source uint64

func (s *source) next() uint64 {
	*s ^= *s << 13
	*s ^= *s >> 7
	*s ^= *s << 17
	return uint64(*s)
}

func (s *source) below(n int) int { return int((s.next() >> 11) % uint64(n)) }

func shuffle[T any](g *source, l []T) {
	for i := range l {
		j := g.below(i + 1)
		l[i], l[j] = l[j], l[i]
	}
}

// piece is what Put is told.
type piece struct {
	off, n int
	more   bool
}

func (p piece) to() int { return p.off + p.n }

func one(from, to int) api.Span { return api.Span{From: from, To: to} }

// list is the spans of pairs of numbers.
func list(n ...int) []api.Span {
	var out []api.Span
	for i := 0; i+1 < len(n); i += 2 {
		out = append(out, one(n[i], n[i+1]))
	}
	return out
}

// model is the chapter's words, cell by cell: the edges part all offsets into cells, and of each it is kept whether it is there. What is put begins and ends at edges, or is refused.
type model struct {
	edges []int // from 0 to 65535
	there []bool
	known bool
	end   int
}

func newModel(edges ...int) *model {
	return &model{edges: edges, there: make([]bool, len(edges)-1)}
}

// bytewise is a model in which each offset is a cell.
func bytewise() *model {
	edges := make([]int, 65536)
	for i := range edges {
		edges[i] = i
	}
	return newModel(edges...)
}

// runs are the spans of the cells that are picked.
func (m *model) runs(picked func(cell int) bool) []api.Span {
	var out []api.Span
	for i := range m.there {
		if !picked(i) {
			continue
		}
		if last := len(out) - 1; last >= 0 && out[last].To == m.edges[i] {
			out[last].To = m.edges[i+1]
			continue
		}
		out = append(out, one(m.edges[i], m.edges[i+1]))
	}
	return out
}

// thereFrom tells whether something is there at an offset or above.
func (m *model) thereFrom(off int) bool {
	for i, there := range m.there {
		if there && m.edges[i+1] > off {
			return true
		}
	}
	return false
}

func (m *model) refuses(p piece) bool {
	if p.off < 0 || p.n < 1 || p.off > 65535 || p.n > 65535 || p.to() > 65535 {
		return true
	}
	if p.more {
		return m.known && p.to() > m.end
	}
	if m.known {
		return p.to() != m.end
	}
	return m.thereFrom(p.to())
}

func (m *model) Put(p piece) ([]api.Span, api.Errno) {
	if m.refuses(p) {
		return nil, api.ErrArg
	}
	in := func(i int) bool { return p.off <= m.edges[i] && m.edges[i] < p.to() }
	fresh := m.runs(func(i int) bool { return in(i) && !m.there[i] })
	for i := range m.there {
		m.there[i] = m.there[i] || in(i)
	}
	if !p.more {
		m.known, m.end = true, p.to()
	}
	return fresh, api.OK
}

func (m *model) Holes() []api.Span {
	return m.runs(func(i int) bool { return !m.there[i] && (!m.known || m.edges[i] < m.end) })
}

func (m *model) End() int {
	if !m.known {
		return -1
	}
	return m.end
}

func (m *model) Done() bool { return m.known && len(m.Holes()) == 0 }

// tells holds what a list tells against what is asked.
func tells(t *testing.T, l *List, holes []api.Span, end int, done bool) {
	t.Helper()
	if got := l.Holes(); !slices.Equal(got, holes) {
		t.Fatalf("P13.3: Holes %v, want %v", got, holes)
	}
	if l.End() != end || l.Done() != done {
		t.Fatalf("P13.4: End %d, Done %v; want %d, %v", l.End(), l.Done(), end, done)
	}
}

// both puts a piece into the list and its model, holds all answers against each other, and tells whether the piece was taken.
func both(t *testing.T, l *List, m *model, p piece) bool {
	t.Helper()
	got, e := l.Put(p.off, p.n, p.more)
	want, f := m.Put(p)
	if e != f || !slices.Equal(got, want) {
		t.Fatalf("P13.2: Put(%d, %d, %v) = %v, %d; want %v, %d", p.off, p.n, p.more, got, e, want, f)
	}
	tells(t, l, m.Holes(), m.End(), m.Done())
	return e == api.OK
}

// pieces are all that begin and end at edges, with more and without.
func pieces(edges []int) []piece {
	var out []piece
	for i, off := range edges {
		for _, to := range edges[i+1:] {
			out = append(out, piece{off, to - off, true}, piece{off, to - off, false})
		}
	}
	return out
}

// TestEveryScriptOfFour puts all pieces of four cells in all scripts of four, at both ends of what may be and between.
func TestEveryScriptOfFour(t *testing.T) {
	for _, edges := range [][]int{{0, 1, 2, 3, 65535}, {0, 8, 16, 24, 65535}, {0, 1, 65533, 65534, 65535}, {0, 65532, 65533, 65534, 65535}} {
		all := pieces(edges)
		for n := range len(all) * len(all) * len(all) * len(all) {
			l, m := New(), newModel(edges...)
			for range 4 {
				both(t, l, m, all[n%len(all)])
				n /= len(all)
			}
		}
	}
}

// edges are some of the offsets, 0 and 65535 among them; near: those that follow one another.
func (s *source) edges(count int, near bool) []int {
	out := []int{0, 65535}
	base := s.below(65535)
	for range count {
		e := s.below(65536)
		if near {
			e = min(65535, base+s.below(2*count))
		}
		out = append(out, e)
	}
	slices.Sort(out)
	return slices.Compact(out)
}

// piece is one that begins and ends at edges, often a short one.
func (s *source) piece(edges []int) piece {
	i, j := s.below(len(edges)), s.below(len(edges))
	if s.below(3) > 0 {
		j = min(len(edges)-1, i+1+s.below(3))
	}
	i, j = min(i, j), max(i, j)
	if i == j {
		i, j = max(0, i-1), max(1, j)
	}
	return piece{edges[i], edges[j] - edges[i], s.below(8) > 0}
}

func TestRandomScripts(t *testing.T) {
	g := source(13)
	taken, refused, done := 0, 0, 0
	for range 3000 {
		edges := g.edges(1+g.below(30), g.below(2) == 0)
		l, m := New(), newModel(edges...)
		for range 60 {
			if both(t, l, m, g.piece(edges)) {
				taken++
			} else {
				refused++
			}
		}
		if l.Done() {
			done++
		}
	}
	if taken < 10000 || refused < 10000 || done < 300 {
		t.Errorf("too few of a kind: %d taken, %d refused, %d done", taken, refused, done)
	}
}

// TestRandomBytes has pieces at any offset.
func TestRandomBytes(t *testing.T) {
	g := source(131)
	for range 6 {
		l, m := New(), bytewise()
		most := 1 + g.below(3000)
		for range 120 {
			p := piece{off: g.below(65536), n: 1 + g.below(most), more: g.below(40) > 0}
			if h := m.Holes(); len(h) > 0 && g.below(3) == 0 { // at a hole, or just beside it
				at := h[g.below(len(h))]
				p.off, p.n = at.From-1+g.below(3), at.To-at.From-1+g.below(3)
			}
			both(t, l, m, p)
		}
	}
}
