package route

import (
	"slices"
	"strconv"
	"strings"
	"testing"

	"mosaic/addr"
	"mosaic/api"
)

// answer is what Find tells.
type answer struct {
	link int
	e    api.Errno
}

func ask(x *Table, dst api.Addr) answer {
	n, e := x.Find(dst)
	return answer{n, e}
}

// Find hangs on the routes alone: in whatever order they came, the answers are the same.
func TestOrderOfListDoesNotCount(t *testing.T) {
	g := source(214)
	for range 1500 {
		l := g.right(g.below(33))
		x := made(t, l...)
		y := made(t, g.shuffled(l)...)
		if !slices.Equal(x.All(), y.All()) {
			t.Fatalf("P21.6: All() = %v and %v", x.All(), y.All())
		}
		for range 60 {
			dst := g.destination(l)
			if a, b := ask(x, dst), ask(y, dst); a != b {
				t.Fatalf("P21.6: Find(%v) = %v, in another order %v; of %v", dst, a, b, l)
			}
		}
		s, _ := Print(l)
		if other, _ := Print(g.shuffled(l)); other != s {
			t.Fatalf("P21.4: Print(%v) = %q, in another order %q", l, s, other)
		}
	}
}

// netsOf tells by the routes' places in which nets a destination lies.
func netsOf(l []api.Route, dst api.Addr) string {
	s := ""
	for i, r := range l {
		if addr.Within(dst, r.Net, r.Bits) {
			s += " " + strconv.Itoa(i)
		}
	}
	return s
}

// Two destinations that lie in the same nets have the same link.
func TestSameNetsSameLink(t *testing.T) {
	g := source(215)
	met := 0
	for range 1000 {
		l := g.right(1 + g.below(32))
		x := made(t, l...)
		seen := map[string]answer{}
		for range 100 {
			dst := g.destination(l)
			if !addr.Valid(dst) {
				continue
			}
			nets := netsOf(l, dst)
			a := ask(x, dst)
			if b, ok := seen[nets]; ok {
				met++
				if a != b {
					t.Fatalf("P21.6: Find(%v) = %v; of another in the same nets %v; of %v", dst, a, b, l)
				}
			}
			seen[nets] = a
			if (a.e == api.OK) != (nets != "") {
				t.Fatalf("P21.2: Find(%v) = %v in the nets%s of %v", dst, a, nets, l)
			}
		}
	}
	if met < 10000 {
		t.Errorf("only %d met", met)
	}
}

// With one route more only destinations in its net may have another link, and those have that route's.
func TestOneRouteMore(t *testing.T) {
	g := source(216)
	changed, kept, out := 0, 0, 0
	for range 3000 {
		l := g.right(1 + g.below(32))
		more := l[len(l)-1]
		x, y := made(t, l[:len(l)-1]...), made(t, l...)
		for range 40 {
			dst := g.destination(l)
			a, b := ask(x, dst), ask(y, dst)
			in := addr.Within(dst, more.Net, more.Bits)
			switch {
			case !in && a != b:
				t.Fatalf("P21.6: Find(%v) = %v, with %v too %v", dst, a, more, b)
			case in && a != b && b != answer{more.Link, api.OK}:
				t.Fatalf("P21.6: Find(%v) = %v, with %v too %v", dst, a, more, b)
			case !in:
				out++
			case a != b:
				changed++
			default:
				kept++
			}
		}
	}
	if min(changed, kept, out) < 3000 {
		t.Errorf("too few of a kind: %d, %d, %d", changed, kept, out)
	}
}

// A link that Find tells is of a route around the destination, and no route around it has more bits.
func TestLongestCounts(t *testing.T) {
	g := source(217)
	for range 1000 {
		l := g.right(g.below(33))
		for i := range l {
			l[i].Link = i % 16
		}
		x := made(t, l...)
		for range 60 {
			dst := g.destination(l)
			most, link := -1, 0
			for _, r := range l {
				if addr.Within(dst, r.Net, r.Bits) && r.Bits > most {
					most, link = r.Bits, r.Link
				}
			}
			a := ask(x, dst)
			if most >= 0 && a != (answer{link, api.OK}) || most < 0 && a.e == api.OK {
				t.Fatalf("P21.2: Find(%v) = %v; want %d by %d bits; of %v", dst, a, link, most, l)
			}
		}
	}
}

// What Print writes, Parse reads: the list in the order of routes.
func TestThereAndBack(t *testing.T) {
	g := source(218)
	for i := range 6000 {
		l := g.right(i % 33)
		s, e := Print(l)
		if e != api.OK || strings.Count(s, "\n") != len(l) {
			t.Fatalf("P21.4: Print(%v) = %q, %d", l, s, e)
		}
		back, e := Parse(s)
		if all := made(t, l...).All(); e != api.OK || !slices.Equal(back, all) {
			t.Fatalf("P21.7: Parse(%q) = %v, %d; want %v", s, back, e, all)
		}
		if again, e := Print(back); again != s || e != api.OK {
			t.Fatalf("P21.7: Print(%v) = %q, %d; want %q", back, again, e, s)
		}
		if e := bothParse(t, s); e != api.OK {
			t.Fatalf("P21.7: Parse(%q) = %d", s, e)
		}
	}
}

// loose writes an address in another form than Print does.
func (s *source) loose(a api.Addr) string {
	if a.V == 4 {
		return addr.Print(a)
	}
	var groups []string
	for i := 0; i < 16; i += 2 {
		g := strconv.FormatInt(int64(a.B[i])<<8|int64(a.B[i+1]), 16)
		for len(g) < 4 && s.once(2) {
			g = "0" + g
		}
		groups = append(groups, g)
	}
	text := strings.Join(groups, ":")
	if s.once(2) {
		text = strings.ToUpper(text)
	}
	return text
}

// Print of what Parse takes, parsed, is the same routes, whatever form and order the lines had.
func TestLooseTextsThereAndBack(t *testing.T) {
	g := source(219)
	for range 3000 {
		l := g.right(g.below(33))
		var b strings.Builder
		for _, r := range l {
			b.WriteString(g.loose(r.Net) + "/" + strconv.Itoa(r.Bits) + " " + strconv.Itoa(r.Link) + "\n")
		}
		took, e := Parse(b.String())
		if e != api.OK || !slices.Equal(took, l) {
			t.Fatalf("P21.5: Parse(%q) = %v, %d; want %v", b.String(), took, e, l)
		}
		s, e := Print(took)
		if e != api.OK {
			t.Fatalf("P21.7: Print(%v) = %d", took, e)
		}
		back, e := Parse(s)
		if e != api.OK || !slices.Equal(back, made(t, l...).All()) {
			t.Fatalf("P21.7: Parse(%q) = %v, %d; want the routes %v", s, back, e, l)
		}
	}
}

// New, Print and Parse have one view of which list may be.
func TestOneView(t *testing.T) {
	g := source(220)
	taken, not := 0, 0
	for range 10000 {
		l := g.list(1 + g.below(6))
		if g.once(2) {
			g.spoil(l)
		}
		x, e := New(l)
		s, f := Print(l)
		if e != f || (x == nil) != (e != api.OK) || (s == "") != (e != api.OK) {
			t.Fatalf("P21.4: New(%v) = %d, Print %q, %d", l, e, s, f)
		}
		var b strings.Builder
		wordless := false
		for _, r := range l {
			b.WriteString(addr.Print(r.Net) + "/" + strconv.Itoa(r.Bits) + " " + strconv.Itoa(r.Link) + "\n")
			wordless = wordless || !addr.Valid(r.Net) || r.Bits < 0 || r.Link < 0
		}
		back, h := Parse(b.String())
		switch {
		case wordless && h == api.ErrBad:
		case h != e || e == api.OK && !slices.Equal(back, l):
			t.Fatalf("P21.5: Parse(%q) = %v, %d; New %d", b.String(), back, h, e)
		}
		if e == api.OK {
			taken++
		} else {
			not++
		}
	}
	if min(taken, not) < 1000 {
		t.Errorf("too few of a kind: %d, %d", taken, not)
	}
}
