package route

import (
	"cmp"
	"net/netip"
	"regexp"
	"slices"
	"strconv"
	"strings"
	"testing"

	"mosaic/addr"
	"mosaic/api"
)

// source is a plain generator, so that every run sees the same inputs.
type source uint64

func (s *source) next() uint64 {
	*s ^= *s << 13
	*s ^= *s >> 7
	*s ^= *s << 17
	return uint64(*s)
}

func (s *source) below(n int) int { return int((s.next() >> 11) % uint64(n)) }

// once in n times it says yes.
func (s *source) once(n int) bool { return s.below(n) == 0 }

// shuffled is a list in another order.
func (s *source) shuffled(l []api.Route) []api.Route {
	l = slices.Clone(l)
	for i := range l {
		j := i + s.below(len(l)-i)
		l[i], l[j] = l[j], l[i]
	}
	return l
}

// bitsOf writes an address as so many letters 0 and 1; "": it is none.
func bitsOf(a api.Addr) string {
	var b strings.Builder
	for _, x := range a.B {
		for i := range 8 {
			b.WriteByte('0' + x<<i>>7)
		}
	}
	s := b.String()
	switch {
	case a.V == 6:
		return s
	case a.V == 4 && strings.Trim(s[32:], "0") == "":
		return s[:32]
	}
	return ""
}

// modelRoute is a route that may be, as the text with which the bits of its destinations begin.
type modelRoute struct {
	v    int
	head string
	r    api.Route
}

// model is the chapter's words over texts of bits: the routes are kept by version and head.
type model struct {
	routes []modelRoute
}

// newModel is the model of a list; nil: the list may not be.
func newModel(l []api.Route) *model {
	m := &model{}
	heads := map[string]int{}
	for _, r := range l {
		s := bitsOf(r.Net)
		if s == "" || r.Bits < 0 || r.Bits > len(s) || strings.Contains(s[r.Bits:], "1") || r.Link < 0 || r.Link > 15 {
			return nil
		}
		x := modelRoute{r.Net.V, s[:r.Bits], r}
		heads[strconv.Itoa(x.v)+x.head]++
		m.routes = append(m.routes, x)
	}
	if len(l) > 32 || len(heads) != len(l) {
		return nil
	}
	return m
}

func (m *model) find(dst api.Addr) (int, api.Errno) {
	s := bitsOf(dst)
	if s == "" {
		return 0, api.ErrArg
	}
	for n := len(s); n >= 0; n-- {
		for _, x := range m.routes {
			if x.v == dst.V && x.head == s[:n] {
				return x.r.Link, api.OK
			}
		}
	}
	return 0, api.ErrRoute
}

// all sorts by version, the net's bits and their number.
func (m *model) all() []api.Route {
	slices.SortFunc(m.routes, func(x, y modelRoute) int {
		return cmp.Or(x.v-y.v, strings.Compare(bitsOf(x.r.Net), bitsOf(y.r.Net)), len(x.head)-len(y.head))
	})
	var l []api.Route
	for _, x := range m.routes {
		l = append(l, x.r)
	}
	return l
}

func (m *model) print() string {
	s := ""
	for _, r := range m.all() {
		s += addr.Print(r.Net) + "/" + strconv.Itoa(r.Bits) + " " + strconv.Itoa(r.Link) + "\n"
	}
	return s
}

var form = regexp.MustCompile(`^([0-9.]+|[0-9a-fA-F:]+)/(0|[1-9][0-9]{0,2}) (0|[1-9][0-9]{0,2})$`)

// modelLine reads a line by a pattern, and its address by the library.
func modelLine(line string) (api.Route, bool) {
	part := form.FindStringSubmatch(line)
	if part == nil {
		return api.Route{}, false
	}
	ip, err := netip.ParseAddr(part[1])
	if err != nil {
		return api.Route{}, false
	}
	a := api.Addr{V: 4}
	if ip.Is6() {
		a.V = 6
	}
	copy(a.B[:], ip.AsSlice())
	bits, _ := strconv.Atoi(part[2])
	link, _ := strconv.Atoi(part[3])
	return api.Route{Net: a, Bits: bits, Link: link}, true
}

func modelParse(s string) ([]api.Route, api.Errno) {
	lines := strings.Split(s, "\n")
	if lines[len(lines)-1] != "" {
		return nil, api.ErrBad
	}
	var l []api.Route
	for _, line := range lines[:len(lines)-1] {
		r, ok := modelLine(line)
		if !ok {
			return nil, api.ErrBad
		}
		l = append(l, r)
	}
	if newModel(l) == nil {
		return nil, api.ErrArg
	}
	return l, api.OK
}

// bothParse sees that Parse answers as its model does, and tells the error.
func bothParse(t *testing.T, s string) api.Errno {
	t.Helper()
	l, e := Parse(s)
	want, f := modelParse(s)
	if !slices.Equal(l, want) || e != f {
		t.Fatalf("P21.5: Parse(%.200q) = %v, %d; want %v, %d", s, l, e, want, f)
	}
	return e
}

// address is one of few, so that nets meet: most of its bytes are 0, 1, 128 or 255.
func (s *source) address() api.Addr {
	a := api.Addr{V: 4 + 2*s.below(2)}
	for i := range width(a.V) / 8 {
		a.B[i] = []byte{0, 0, 0, 0, 0, 10, 1, 128, 255, 254}[s.below(10)]
		if s.once(20) {
			a.B[i] = byte(s.next() >> 30)
		}
	}
	return a
}

// size is a number of bits, often a short one.
func (s *source) size(v int) int {
	if s.once(2) {
		return s.below(12)
	}
	return s.below(width(v) + 1)
}

// route may be.
func (s *source) route() api.Route {
	a := s.address()
	bits := s.size(a.V)
	net, _ := addr.Mask(a, bits)
	return api.Route{Net: net, Bits: bits, Link: s.below(16)}
}

// near is a route that is like one of a list, so that nets lie in one another.
func (s *source) near(l []api.Route) api.Route {
	if len(l) == 0 {
		return s.route()
	}
	r := l[s.below(len(l))]
	for range s.below(3) {
		i := s.below(width(r.Net.V))
		r.Net.B[i/8] ^= 128 >> (i % 8)
	}
	r.Bits = s.size(r.Net.V)
	r.Net, _ = addr.Mask(r.Net, r.Bits)
	r.Link = s.below(16)
	return r
}

// another is a route, mostly one that is near to a list.
func (s *source) another(l []api.Route) api.Route {
	if s.once(3) {
		return s.route()
	}
	return s.near(l)
}

// list is n routes; two of them may be of one net.
func (s *source) list(n int) []api.Route {
	var l []api.Route
	for range n {
		l = append(l, s.another(l))
	}
	return l
}

// right is a list of n routes that may be.
func (s *source) right(n int) []api.Route {
	var l []api.Route
	for len(l) < n {
		r := s.another(l)
		if !slices.ContainsFunc(l, func(x api.Route) bool { return x.Net == r.Net && x.Bits == r.Bits }) {
			l = append(l, r)
		}
	}
	return l
}

// spoil makes one route of a list such that it may not be, mostly.
func (s *source) spoil(l []api.Route) {
	r := &l[s.below(len(l))]
	switch s.below(6) {
	case 0:
		r.Net.V = []int{0, 4, 5, 6, 10}[s.below(5)]
	case 1:
		r.Bits = []int{-1, 0, 31, 32, 33, 127, 128, 129}[s.below(8)]
	case 2:
		r.Link = []int{-1, 0, 15, 16}[s.below(4)]
	case 3:
		r.Net.B[s.below(16)] ^= 1 << s.below(8)
	case 4:
		*r = l[s.below(len(l))]
	case 5:
		r.Bits--
	}
}

// destination lies often in a net of the list, or just beside it.
func (s *source) destination(l []api.Route) api.Addr {
	if len(l) == 0 || s.once(4) {
		return s.address()
	}
	r := l[s.below(len(l))]
	a := r.Net
	if s.once(3) {
		a = last(r)
	}
	for range s.below(3) {
		i := s.below(width(a.V))
		a.B[i/8] ^= 128 >> (i % 8)
	}
	if s.once(30) {
		a.V = s.below(12)
	}
	return a
}

// count is how often which case came.
type count struct{ made, refused, nested, flat, none, noAddress int }

func TestAgainstModel(t *testing.T) {
	g := source(212)
	var c count
	for range 20000 {
		l := g.list(g.below(34))
		if len(l) > 0 && g.once(3) {
			g.spoil(l)
		}
		m := newModel(l)
		if m == nil {
			refused(t, l...)
			c.refused++
			continue
		}
		c.made++
		x := made(t, l...)
		if all := x.All(); !slices.Equal(all, m.all()) {
			t.Fatalf("P21.3: All() of %v = %v; want %v", l, all, m.all())
		}
		if s, e := Print(l); s != m.print() || e != api.OK {
			t.Fatalf("P21.4: Print(%v) = %q, %d; want %q", l, s, e, m.print())
		}
		for range 30 {
			c.find(t, x, m, l, g.destination(l))
		}
	}
	if min(c.made, c.refused, c.nested, c.flat, c.none, c.noAddress) < 1000 {
		t.Errorf("too few of a kind: %+v", c)
	}
}

// find sees that a table leads where its model does, and counts in how many nets the destination lies.
func (c *count) find(t *testing.T, x *Table, m *model, l []api.Route, dst api.Addr) {
	t.Helper()
	n, e := x.Find(dst)
	if want, f := m.find(dst); n != want || e != f {
		t.Fatalf("P21.2: Find(%v) in %v = %d, %d; want %d, %d", dst, l, n, e, want, f)
	}
	nets := 0
	for _, r := range l {
		if addr.Within(dst, r.Net, r.Bits) {
			nets++
		}
	}
	switch {
	case e == api.ErrArg:
		c.noAddress++
	case nets > 1:
		c.nested++
	case nets == 1:
		c.flat++
	default:
		c.none++
	}
}

// Every list of up to three of the nets of few bits of both versions, in every order, asked for every address of few bits.
func TestEachShortList(t *testing.T) {
	var nets []api.Route
	for _, v := range []int{4, 6} {
		for bits := range 3 {
			for x := range 1 << bits {
				nets = append(nets, api.Route{Net: api.Addr{V: v, B: [16]byte{byte(x << (8 - bits))}}, Bits: bits})
			}
		}
	}
	look := func(l ...api.Route) {
		for i := range l {
			l[i].Link = i + 1
		}
		m := newModel(l)
		if m == nil {
			refused(t, l...)
			return
		}
		x := made(t, l...)
		if all := x.All(); !slices.Equal(all, m.all()) {
			t.Fatalf("P21.3: All() of %v = %v", l, all)
		}
		for top := range 8 {
			for _, v := range []int{4, 6} {
				dst := api.Addr{V: v, B: [16]byte{byte(top << 5)}}
				n, e := x.Find(dst)
				if want, f := m.find(dst); n != want || e != f {
					t.Fatalf("P21.2: Find(%v) in %v = %d, %d; want %d, %d", dst, l, n, e, want, f)
				}
			}
		}
	}
	look()
	for _, a := range nets {
		look(a)
		for _, b := range nets {
			look(a, b)
			for _, c := range nets {
				look(a, b, c)
			}
		}
	}
}
