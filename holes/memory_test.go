package holes

import (
	"slices"
	"testing"
)

// scribble writes over all that an answer has room for.
func scribble[T any](l []T, mark T) {
	l = l[:cap(l)]
	for i := range l {
		l[i] = mark
	}
}

func TestWhatIsToldIsNew(t *testing.T) {
	g := source(138)
	mark := one(-7, -7)
	for range 300 {
		edges := g.edges(1+g.below(20), g.below(2) == 0)
		l, m := New(), newModel(edges...)
		for range 40 {
			p := g.piece(edges)
			fresh, _ := l.Put(p.off, p.n, p.more)
			want, _ := m.Put(p)
			first, second := l.Holes(), l.Holes()
			scribble(first, mark)
			if !slices.Equal(fresh, want) || !slices.Equal(second, m.Holes()) {
				t.Fatalf("P13.8: writing into Holes changed %v to %v, or %v to %v", want, fresh, m.Holes(), second)
			}
			scribble(fresh, mark)
			if !slices.Equal(second, m.Holes()) {
				t.Fatalf("P13.8: writing into what Put told changed %v to %v", m.Holes(), second)
			}
			scribble(second, mark)
			tells(t, l, m.Holes(), m.End(), m.Done())
		}
	}
}

// What was told stays as it is, whatever is put behind it.
func TestWhatIsToldStays(t *testing.T) {
	l := New()
	fresh, _ := l.Put(8, 8, true)
	holes := l.Holes()
	l.Put(0, 8, true)
	l.Put(24, 8, false)
	l.Put(16, 4, true)
	if !slices.Equal(fresh, list(8, 16)) || !slices.Equal(holes, list(0, 8, 16, 65535)) {
		t.Errorf("P13.8: %v, %v behind further pieces", fresh, holes)
	}
}

// A list to which refused pieces came answers as one to which none came.
func TestRefusedIsUnchanged(t *testing.T) {
	g := source(1388)
	refused := 0
	for range 1000 {
		edges := g.edges(1+g.below(12), g.below(2) == 0)
		noisy, plain := New(), New()
		for range 30 {
			p := g.piece(edges)
			got, e := noisy.Put(p.off, p.n, p.more)
			if e != 0 {
				refused++
				tells(t, noisy, plain.Holes(), plain.End(), plain.Done())
				continue
			}
			if want, f := plain.Put(p.off, p.n, p.more); f != e || !slices.Equal(got, want) {
				t.Fatalf("P13.8: Put(%v) = %v behind refused ones, without them %v, %d", p, got, want, f)
			}
		}
	}
	if refused < 1000 {
		t.Errorf("P13.8: only %d were refused", refused)
	}
}

// Lists that take turns answer as their models do, each for itself.
func TestListsAreApart(t *testing.T) {
	g := source(13888)
	for range 200 {
		edges := g.edges(1+g.below(12), g.below(2) == 0)
		var lists [4]*List
		var models [4]*model
		for i := range lists {
			lists[i], models[i] = New(), newModel(edges...)
		}
		for range 100 {
			i := g.below(4)
			both(t, lists[i], models[i], g.piece(edges))
		}
		for i, l := range lists {
			tells(t, l, models[i].Holes(), models[i].End(), models[i].Done())
		}
	}
}

// stride puts single bytes, every second one, and tells their offsets in the order in which they came.
func stride(l *List) []int {
	var out []int
	for k := range 32767 {
		// 7919 has no factor in common with 32767: each comes once, far from the one ahead of it.
		out = append(out, 2*(k*7919%32767)+1)
	}
	for _, off := range out {
		l.Put(off, 1, true)
	}
	return out
}

// TestMostHoles has as many holes as there may be.
func TestMostHoles(t *testing.T) {
	l := New()
	offs := stride(l)
	holes := l.Holes()
	if len(holes) != 32768 || l.End() != -1 || l.Done() {
		t.Fatalf("P13.3: %d holes, End %d", len(holes), l.End())
	}
	for i, h := range holes {
		if h != one(2*i, 2*i+1) {
			t.Fatalf("P13.3: hole %d is %v", i, h)
		}
	}
	if _, e := l.Put(0, offs[0], false); e == 0 {
		t.Error("P13.2: an end below what is there")
	}
	if fresh, e := l.Put(65534, 1, false); e != 0 || !slices.Equal(fresh, list(65534, 65535)) {
		t.Fatalf("P13.2: %v, %d", fresh, e)
	}
	for _, off := range offs[1:] {
		if fresh, e := l.Put(off-1, 1, true); e != 0 || !slices.Equal(fresh, list(off-1, off)) {
			t.Fatalf("P13.2: Put(%d, 1, true) = %v, %d", off-1, fresh, e)
		}
	}
	tells(t, l, list(offs[0]-1, offs[0]), 65535, false)
	l.Put(0, 65535, true)
	tells(t, l, nil, 65535, true)
}

// TestAllHolesAtOnce lets one piece fill as many holes as there may be.
func TestAllHolesAtOnce(t *testing.T) {
	l := New()
	stride(l)
	holes := l.Holes()
	fresh, e := l.Put(0, 65535, false)
	if e != 0 || !slices.Equal(fresh, holes) {
		t.Fatalf("P13.2: %d spans, %d", len(fresh), e)
	}
	tells(t, l, nil, 65535, true)
}
