package holes

import (
	"math"
	"slices"
	"testing"

	"mosaic/api"
)

// step is a Put, what it has to answer, and what the list has to tell behind it.
type step struct {
	piece
	e     api.Errno
	fresh []api.Span
	holes []api.Span
	end   int
}

func take(off, n int, fresh, holes []api.Span, end int) step {
	return step{piece{off, n, true}, api.OK, fresh, holes, end}
}

func last(off, n int, fresh, holes []api.Span, end int) step {
	return step{piece{off, n, false}, api.OK, fresh, holes, end}
}

func refuse(off, n int, more bool, holes []api.Span, end int) step {
	return step{piece{off, n, more}, api.ErrArg, nil, holes, end}
}

func hold(t *testing.T, name string, steps ...step) {
	t.Run(name, func(t *testing.T) {
		l := New()
		for i, s := range steps {
			got, e := l.Put(s.off, s.n, s.more)
			if e != s.e || !slices.Equal(got, s.fresh) {
				t.Fatalf("P13.2: step %d: Put(%d, %d, %v) = %v, %d; want %v, %d", i, s.off, s.n, s.more, got, e, s.fresh, s.e)
			}
			tells(t, l, s.holes, s.end, s.end >= 0 && len(s.holes) == 0)
		}
	})
}

func TestNew(t *testing.T) {
	l := New()
	if l == nil {
		t.Fatal("P13.1: New is nil")
	}
	tells(t, l, list(0, 65535), -1, false)
}

func TestExamples(t *testing.T) {
	hold(t, "1 and 2",
		take(8, 16, list(8, 24), list(0, 8, 24, 65535), -1),
		take(0, 16, list(0, 8), list(24, 65535), -1),
		last(24, 5, list(24, 29), nil, 29),
		last(0, 29, nil, nil, 29),
		take(0, 29, nil, nil, 29),
		refuse(0, 30, true, nil, 29),
		refuse(8, 8, false, nil, 29))
	hold(t, "3",
		take(16, 8, list(16, 24), list(0, 16, 24, 65535), -1),
		refuse(0, 8, false, list(0, 16, 24, 65535), -1),
		last(0, 24, list(0, 16), nil, 24))
	hold(t, "4",
		refuse(0, 0, true, list(0, 65535), -1),
		refuse(-8, 8, true, list(0, 65535), -1),
		refuse(65535, 1, true, list(0, 65535), -1),
		refuse(0, 65536, true, list(0, 65535), -1),
		take(0, 65535, list(0, 65535), nil, -1),
		last(65000, 535, nil, nil, 65535))
}

func TestHardPlaces(t *testing.T) {
	hold(t, "a piece with more just up to the end",
		last(16, 4, list(16, 20), list(0, 16), 20),
		take(18, 2, nil, list(0, 16), 20),
		refuse(18, 3, true, list(0, 16), 20),
		refuse(20, 1, true, list(0, 16), 20),
		take(8, 12, list(8, 16), list(0, 8), 20),
		take(0, 20, list(0, 8), nil, 20))
	hold(t, "an end just where a piece with more ends",
		take(8, 8, list(8, 16), list(0, 8, 16, 65535), -1),
		refuse(8, 7, false, list(0, 8, 16, 65535), -1),
		refuse(0, 15, false, list(0, 8, 16, 65535), -1),
		last(8, 8, nil, list(0, 8), 16))
	hold(t, "an end below what is there",
		take(100, 1, list(100, 101), list(0, 100, 101, 65535), -1),
		refuse(0, 100, false, list(0, 100, 101, 65535), -1),
		refuse(100, 0, false, list(0, 100, 101, 65535), -1),
		refuse(0, 1, false, list(0, 100, 101, 65535), -1),
		last(100, 1, nil, list(0, 100), 101))
	hold(t, "an end behind what is there",
		take(100, 1, list(100, 101), list(0, 100, 101, 65535), -1),
		last(200, 1, list(200, 201), list(0, 100, 101, 200), 201))
	hold(t, "another end, all of whose bytes are there",
		take(0, 32, list(0, 32), list(32, 65535), -1),
		last(0, 32, nil, nil, 32),
		refuse(0, 31, false, nil, 32),
		refuse(24, 4, false, nil, 32),
		refuse(0, 33, false, nil, 32),
		refuse(32, 1, false, nil, 32))
	hold(t, "a known end with holes ahead of it",
		last(32, 8, list(32, 40), list(0, 32), 40),
		refuse(0, 8, false, list(0, 32), 40),
		refuse(0, 41, false, list(0, 32), 40),
		refuse(48, 8, false, list(0, 32), 40),
		refuse(48, 8, true, list(0, 32), 40),
		last(0, 40, list(0, 32), nil, 40))
	hold(t, "the last offset, with more",
		take(65534, 1, list(65534, 65535), list(0, 65534), -1),
		refuse(0, 65534, false, list(0, 65534), -1),
		last(65533, 2, list(65533, 65534), list(0, 65533), 65535))
	hold(t, "the last offset, without more",
		last(65534, 1, list(65534, 65535), list(0, 65534), 65535),
		take(0, 65535, list(0, 65534), nil, 65535))
	hold(t, "all of 65535 at once",
		last(0, 65535, list(0, 65535), nil, 65535),
		take(0, 65535, nil, nil, 65535),
		refuse(0, 65534, false, nil, 65535))
	hold(t, "all there, and no end known",
		take(1, 65534, list(1, 65535), list(0, 1), -1),
		take(0, 1, list(0, 1), nil, -1),
		refuse(0, 65534, false, nil, -1),
		take(0, 65535, nil, nil, -1),
		last(65534, 1, nil, nil, 65535))
	hold(t, "one byte is all",
		last(0, 1, list(0, 1), nil, 1),
		refuse(0, 2, true, nil, 1),
		refuse(1, 1, true, nil, 1))
}

func TestOverSeveralHoles(t *testing.T) {
	steps := []step{
		take(8, 8, list(8, 16), list(0, 8, 16, 65535), -1),
		take(24, 8, list(24, 32), list(0, 8, 16, 24, 32, 65535), -1),
		take(40, 8, list(40, 48), list(0, 8, 16, 24, 32, 40, 48, 65535), -1),
	}
	hold(t, "over all", append(slices.Clone(steps), take(0, 56, list(0, 8, 16, 24, 32, 40, 48, 56), list(56, 65535), -1))...)
	hold(t, "from within one into another", append(slices.Clone(steps), take(4, 32, list(4, 8, 16, 24, 32, 36), list(0, 4, 36, 40, 48, 65535), -1))...)
	hold(t, "from edge to edge", append(slices.Clone(steps), take(16, 24, list(16, 24, 32, 40), list(0, 8, 48, 65535), -1))...)
	hold(t, "from what is there to what is there", append(slices.Clone(steps), take(12, 32, list(16, 24, 32, 40), list(0, 8, 48, 65535), -1))...)
	hold(t, "within one", append(slices.Clone(steps), take(18, 2, list(18, 20), list(0, 8, 16, 18, 20, 24, 32, 40, 48, 65535), -1))...)
	hold(t, "none", append(slices.Clone(steps), take(8, 8, nil, list(0, 8, 16, 24, 32, 40, 48, 65535), -1), take(25, 2, nil, list(0, 8, 16, 24, 32, 40, 48, 65535), -1))...)
	hold(t, "an end over several", append(slices.Clone(steps), last(20, 30, list(20, 24, 32, 40, 48, 50), list(0, 8, 16, 20), 50))...)
}

func TestWrongPieces(t *testing.T) {
	wrong := []piece{
		{off: -1, n: 1}, {off: -1, n: 2}, {off: math.MinInt, n: 1}, {off: math.MinInt, n: math.MaxInt}, {off: math.MinInt, n: math.MinInt},
		{off: 0, n: 0}, {off: 0, n: -1}, {off: 8, n: -8}, {off: 65535, n: -1}, {off: 0, n: math.MinInt}, {off: math.MaxInt, n: math.MinInt},
		{off: 65535, n: 0}, {off: 65535, n: 1}, {off: 65534, n: 2}, {off: 65536, n: 1}, {off: 0, n: 65536}, {off: 1, n: 65535},
		{off: 1 << 62, n: 1 << 62}, {off: 1, n: math.MaxInt}, {off: math.MaxInt, n: 1}, {off: math.MaxInt, n: math.MaxInt}, {off: math.MaxInt, n: 2}, {off: 0, n: math.MaxInt},
		{off: 1 << 32, n: 8}, {off: 8, n: 1 << 32},
	}
	made := map[string]func() *List{
		"new":     New,
		"begun":   func() *List { l := New(); l.Put(8, 8, true); return l },
		"all":     func() *List { l := New(); l.Put(0, 65535, true); return l },
		"ended":   func() *List { l := New(); l.Put(16, 8, false); return l },
		"done":    func() *List { l := New(); l.Put(0, 24, false); return l },
		"longest": func() *List { l := New(); l.Put(65000, 535, false); return l },
	}
	for name, make := range made {
		for _, p := range wrong {
			for _, more := range []bool{false, true} {
				l, same := make(), make()
				got, e := l.Put(p.off, p.n, more)
				if e != api.ErrArg || len(got) != 0 {
					t.Errorf("P13.2: %s: Put(%d, %d, %v) = %v, %d; want ErrArg alone", name, p.off, p.n, more, got, e)
				}
				tells(t, l, same.Holes(), same.End(), same.Done())
			}
		}
	}
}

// putAll puts pieces in their order, and tells whether none was refused.
func putAll(l *List, pieces []piece) bool {
	taken := true
	for _, p := range pieces {
		if _, e := l.Put(p.off, p.n, p.more); e != api.OK {
			taken = false
		}
	}
	return taken
}

func TestAnyOrder(t *testing.T) {
	g := source(135)
	compared := 0
	for range 4000 {
		edges := g.edges(1+g.below(12), g.below(2) == 0)
		var script []piece
		for range 1 + g.below(8) {
			script = append(script, g.piece(edges))
		}
		l := New()
		if !putAll(l, script) {
			continue
		}
		for range 5 {
			shuffle(&g, script)
			x := New()
			if !putAll(x, script) {
				continue
			}
			compared++
			if !slices.Equal(l.Holes(), x.Holes()) || l.End() != x.End() || l.Done() != x.Done() {
				t.Fatalf("P13.5: %v in another order: %v, %d, %v; %v, %d, %v", script, l.Holes(), l.End(), l.Done(), x.Holes(), x.End(), x.Done())
			}
		}
	}
	if compared < 3000 {
		t.Errorf("P13.5: only %d orders were compared", compared)
	}
}

// seen counts of each offset how often it was told.
type seen [65535]int

func (s *seen) tell(l []api.Span) {
	for _, x := range l {
		for i := x.From; i < x.To; i++ {
			s[i]++
		}
	}
}

func TestEachOnce(t *testing.T) {
	g := source(136)
	for range 150 {
		l, told, there := New(), new(seen), new(seen)
		edges := g.edges(2+g.below(40), g.below(2) == 0)
		for range 40 {
			p := g.piece(edges)
			fresh, e := l.Put(p.off, p.n, p.more)
			if e == api.OK {
				there.tell([]api.Span{one(p.off, p.to())})
			}
			told.tell(fresh)
		}
		missing := new(seen)
		missing.tell(l.Holes())
		upTo := l.End()
		if upTo < 0 {
			upTo = 65535
		}
		for i := range told {
			if told[i] != min(there[i], 1) {
				t.Fatalf("P13.6: offset %d was told %d times, and put %d times", i, told[i], there[i])
			}
			if (missing[i] == 1) != (i < upTo && there[i] == 0) || missing[i] > 1 {
				t.Fatalf("P13.6: offset %d of %d: %d times in Holes, put %d times", i, upTo, missing[i], there[i])
			}
		}
	}
}

// cut parts a datagram into pieces, the last one without more.
func (s *source) cut(long int) []piece {
	var out []piece
	most := 1 + s.below(long)
	if most < long/200 { // not too many of them
		most = long / 200
	}
	for off := 0; off < long; {
		n := min(long-off, 1+s.below(most))
		out = append(out, piece{off, n, off+n < long})
		off += n
	}
	return out
}

// comesTogether puts pieces of one datagram: none may be refused, and it is done just when each offset and an end have come.
func comesTogether(t *testing.T, long int, script []piece) {
	t.Helper()
	l, there, missing, ended := New(), make([]bool, long), long, false
	for i, p := range script {
		if _, e := l.Put(p.off, p.n, p.more); e != api.OK {
			t.Fatalf("P13.7: of %d bytes piece %d, %v, is refused: %d", long, i, p, e)
		}
		for j := p.off; j < p.to(); j++ {
			if !there[j] {
				there[j] = true
				missing--
			}
		}
		ended = ended || !p.more
		if l.Done() != (ended && missing == 0) {
			t.Fatalf("P13.7: Done %v, where %d of %d bytes have not come, the last piece: %v", l.Done(), missing, long, ended)
		}
	}
	if !l.Done() || l.End() != long || len(l.Holes()) != 0 {
		t.Fatalf("P13.7: behind all of %d: %v, %d, %v", long, l.Done(), l.End(), l.Holes())
	}
}

func TestACutComesTogether(t *testing.T) {
	g := source(137)
	for i := range 600 {
		long := []int{1, 2, 65534, 65535, 1 + g.below(50), 1 + g.below(65535)}[i%6]
		script := g.cut(long)
		for range g.below(4) { // some again, and some of other cuts
			again := slices.Concat(script, g.cut(long))
			shuffle(&g, again)
			script = append(script, again[:g.below(len(again)+1)]...)
		}
		shuffle(&g, script)
		comesTogether(t, long, script)
	}
}

// TestEveryOrderOfACut has a last piece whose offsets come ahead of it by others, with more.
func TestEveryOrderOfACut(t *testing.T) {
	script := []piece{{0, 8, true}, {8, 8, true}, {16, 3, false}, {4, 15, true}, {16, 3, true}}
	for n := range 5 * 5 * 5 * 5 * 5 {
		var order []piece
		for range 5 {
			order = append(order, script[n%5])
			n /= 5
		}
		comesTogether(t, 19, slices.Concat(order, script))
	}
}
