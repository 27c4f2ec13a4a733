package route

import (
	"slices"
	"sync"
	"testing"

	"mosaic/api"
)

// scribble writes over a list and the room behind it.
func scribble(l []api.Route) {
	l = l[:cap(l)]
	for i := range l {
		l[i] = api.Route{Net: api.Addr{V: 5, B: [16]byte{0xa5}}, Bits: -7, Link: -7}
	}
}

// roomy is a copy of a list with room behind it, which is filled; whole is all of it.
func roomy(l []api.Route) (list, whole []api.Route) {
	whole = append(slices.Clone(l), many(3)...)
	return whole[:len(l)], whole
}

// What is handed in is neither changed, its spare room too, nor kept: written over, the table leads where it led.
func TestArgumentsAreNotChangedNorKept(t *testing.T) {
	g := source(221)
	for range 2000 {
		l := g.list(g.below(34))
		m := newModel(l)
		list, whole := roomy(l)
		x, e := New(list)
		_, f := Print(list)
		if want := append(slices.Clone(l), many(3)...); !slices.Equal(whole, want) {
			t.Fatalf("P21.8: %v became %v", want, whole)
		}
		if (e == api.OK) != (m != nil) || e != f {
			t.Fatalf("P21.1: New(%v) = %d, Print %d", l, e, f)
		}
		if m == nil {
			continue
		}
		scribble(whole)
		if all := x.All(); !slices.Equal(all, m.all()) {
			t.Fatalf("P21.8: All() = %v; want %v", all, m.all())
		}
		for range 20 {
			var c count
			c.find(t, x, m, l, g.destination(l))
		}
	}
}

// What is told is the caller's own: written over, nothing that is told later changes.
func TestAnswersAreTheCallersOwn(t *testing.T) {
	g := source(222)
	for range 2000 {
		l := g.right(g.below(33))
		m := newModel(l)
		x := made(t, l...)
		first, second := x.All(), x.All()
		scribble(first)
		if !slices.Equal(second, m.all()) {
			t.Fatalf("P21.8: two answers of All() share: %v", second)
		}
		scribble(second)
		if all := x.All(); !slices.Equal(all, m.all()) {
			t.Fatalf("P21.8: All() = %v; want %v", all, m.all())
		}
		for range 20 {
			var c count
			c.find(t, x, m, l, g.destination(l))
		}
	}
}

func TestParsedIsTheCallersOwn(t *testing.T) {
	g := source(223)
	for range 500 {
		s, _ := Print(g.right(1 + g.below(32)))
		first, _ := Parse(s)
		second, _ := Parse(s)
		want := slices.Clone(second)
		x := made(t, first...)
		scribble(first)
		if again, e := Parse(s); e != api.OK || !slices.Equal(second, want) || !slices.Equal(again, want) {
			t.Fatalf("P21.8: Parse(%q) = %v, then %v", s, second, again)
		}
		if !slices.Equal(x.All(), want) {
			t.Fatalf("P21.8: a table of what was parsed is %v", x.All())
		}
	}
}

// A table never changes, whatever is asked of it, and tables are apart.
func TestTablesNeverChange(t *testing.T) {
	g := source(224)
	var tables []*Table
	var models []*model
	var lists [][]api.Route
	for range 8 {
		l := g.right(1 + g.below(32))
		tables, models, lists = append(tables, made(t, l...)), append(models, newModel(l)), append(lists, l)
	}
	for range 5000 {
		i, j := g.below(8), g.below(8)
		var c count
		c.find(t, tables[i], models[i], lists[i], g.destination(lists[j]))
		if all := tables[j].All(); !slices.Equal(all, models[j].all()) {
			t.Fatalf("P21.3: All() = %v; want %v", all, models[j].all())
		}
		refused(t, append(many(1), many(1)...)...)
	}
}

// Many may ask one table at once.
func TestAskedAtOnce(t *testing.T) {
	g := source(225)
	l := g.right(32)
	x, want := made(t, l...), newModel(l).all()
	var all sync.WaitGroup
	for range 8 {
		all.Go(func() {
			for range 300 {
				for _, r := range want {
					if _, e := x.Find(r.Net); e != api.OK {
						t.Errorf("P21.2: Find(%v) = %d", r.Net, e)
					}
				}
				if !slices.Equal(x.All(), want) {
					t.Errorf("P21.3: All() = %v", x.All())
				}
			}
		})
	}
	all.Wait()
}
