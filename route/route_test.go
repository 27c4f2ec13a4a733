package route

import (
	"math"
	"slices"
	"testing"

	"mosaic/addr"
	"mosaic/api"
)

// at is the address of a text.
func at(t *testing.T, s string) api.Addr {
	t.Helper()
	a, e := addr.Parse(s)
	if e != api.OK {
		t.Fatalf("%q is no address: %d", s, e)
	}
	return a
}

// to is a route.
func to(t *testing.T, net string, bits, link int) api.Route {
	t.Helper()
	return api.Route{Net: at(t, net), Bits: bits, Link: link}
}

// examples are the chapter's routes, R.
func examples(t *testing.T) []api.Route {
	t.Helper()
	return []api.Route{to(t, "10.0.0.0", 8, 1), to(t, "10.1.0.0", 16, 2), to(t, "0.0.0.0", 0, 0), to(t, "2001:db8::", 32, 3)}
}

// made is a table of routes that may be.
func made(t *testing.T, l ...api.Route) *Table {
	t.Helper()
	x, e := New(l)
	if x == nil || e != api.OK {
		t.Fatalf("P21.1: New(%v) = %v, %d", l, x, e)
	}
	return x
}

// refused sees that New and Print refuse a list.
func refused(t *testing.T, l ...api.Route) {
	t.Helper()
	if x, e := New(l); x != nil || e != api.ErrArg {
		t.Errorf("P21.1: New(%v) = %v, %d", l, x, e)
	}
	if s, e := Print(l); s != "" || e != api.ErrArg {
		t.Errorf("P21.4: Print(%v) = %q, %d", l, s, e)
	}
}

// finds sees that a table leads to a link.
func finds(t *testing.T, x *Table, dst api.Addr, link int) {
	t.Helper()
	if n, e := x.Find(dst); n != link || e != api.OK {
		t.Errorf("P21.2: Find(%s) = %d, %d; want %d", addr.Print(dst), n, e, link)
	}
}

// fails sees that a table leads nowhere.
func fails(t *testing.T, x *Table, dst api.Addr, want api.Errno) {
	t.Helper()
	if n, e := x.Find(dst); n != 0 || e != want {
		t.Errorf("P21.2: Find(%v) = %d, %d; want 0, %d", dst, n, e, want)
	}
}

func TestExamplesOfFind(t *testing.T) {
	x := made(t, examples(t)...)
	finds(t, x, at(t, "10.2.0.1"), 1)
	finds(t, x, at(t, "10.1.255.255"), 2)
	finds(t, x, at(t, "11.0.0.1"), 0)
	finds(t, x, at(t, "2001:db8::5"), 3)
	fails(t, x, at(t, "::1"), api.ErrRoute)
	fails(t, x, api.Addr{V: 5}, api.ErrArg)
}

func TestExamplesOfAll(t *testing.T) {
	want := []api.Route{to(t, "0.0.0.0", 0, 0), to(t, "10.0.0.0", 8, 1), to(t, "10.1.0.0", 16, 2), to(t, "2001:db8::", 32, 3)}
	if l := made(t, examples(t)...).All(); !slices.Equal(l, want) {
		t.Errorf("P21.3: All() = %v", l)
	}
}

func TestExamplesOfNew(t *testing.T) {
	refused(t, to(t, "10.0.0.1", 8, 0))
	refused(t, to(t, "10.0.0.0", 33, 0))
	refused(t, to(t, "10.0.0.0", 8, 16))
	refused(t, to(t, "10.0.0.0", 8, -1))
	refused(t, to(t, "10.0.0.0", 8, 0), to(t, "10.0.0.0", 8, 1))
	refused(t, to(t, "10.0.0.0", 8, 1), to(t, "10.0.0.0", 8, 1))
}

// No routes make a table too: it leads nowhere.
func TestNoRoutes(t *testing.T) {
	for _, l := range [][]api.Route{nil, {}} {
		x := made(t, l...)
		fails(t, x, at(t, "0.0.0.0"), api.ErrRoute)
		fails(t, x, at(t, "255.255.255.255"), api.ErrRoute)
		fails(t, x, at(t, "::"), api.ErrRoute)
		fails(t, x, api.Addr{}, api.ErrArg)
		if all := x.All(); len(all) != 0 {
			t.Errorf("P21.3: All() = %v", all)
		}
	}
}

// wild are numbers that are neither bits nor links, some of which end in the bits of one that is.
func wild() []int {
	return []int{-1, -8, 129, 256, 1 << 16, 1<<16 + 8, 1 << 32, 1<<32 + 8, 8 - 1<<32, math.MaxInt, math.MinInt, math.MinInt + 8}
}

func TestEdgesOfBits(t *testing.T) {
	for bits := range 140 {
		r := api.Route{Net: api.Addr{V: 4}, Bits: bits}
		if bits <= 32 {
			made(t, r)
		} else {
			refused(t, r)
		}
		r.Net.V = 6
		if bits <= 128 {
			made(t, r)
		} else {
			refused(t, r)
		}
	}
	for _, bits := range wild() {
		refused(t, to(t, "0.0.0.0", bits, 0))
		refused(t, to(t, "::", bits, 0))
	}
}

func TestEdgesOfLink(t *testing.T) {
	for link := range 40 {
		for _, r := range []api.Route{to(t, "10.0.0.0", 8, link), to(t, "::", 0, link)} {
			if link > 15 {
				refused(t, r)
				continue
			}
			finds(t, made(t, r), r.Net, link)
		}
	}
	for _, link := range wild() {
		refused(t, to(t, "10.0.0.0", 8, link))
		refused(t, to(t, "::", 128, link))
	}
}

// noAddresses are none, though some have the bytes of one.
func noAddresses() []api.Addr {
	l := []api.Addr{{}, {V: 5}, {V: -4}, {V: -6}, {V: 46}, {V: 1<<32 + 4}, {V: 1<<32 + 6}, {V: math.MinInt}, {V: math.MaxInt}}
	for i := 4; i < 16; i++ {
		a := api.Addr{V: 4, B: [16]byte{10}}
		a.B[i] = 1 << (i % 8)
		l = append(l, a)
	}
	return l
}

func TestWhatIsNoAddress(t *testing.T) {
	x := made(t, append(examples(t), to(t, "::", 0, 4))...)
	for _, a := range noAddresses() {
		fails(t, x, a, api.ErrArg)
		for _, bits := range []int{0, 8, 32} {
			refused(t, api.Route{Net: a, Bits: bits})
		}
	}
}

// A net has no bit behind its first Bits, whichever that would be.
func TestBitsBehindTheNet(t *testing.T) {
	for _, v := range []struct{ v, width int }{{4, 32}, {6, 128}} {
		for i := range v.width {
			one := api.Addr{V: v.v}
			one.B[i/8] = 128 >> (i % 8)
			for bits := range v.width + 1 {
				r := api.Route{Net: one, Bits: bits, Link: 7}
				if x, e := New([]api.Route{r}); (e == api.OK) != (bits > i) || (x != nil) != (bits > i) {
					t.Fatalf("P21.1: New of a net of V %d, %d bits, of which %d is set = %d", v.v, bits, i, e)
				}
			}
		}
	}
}

// last is the last address of a net.
func last(r api.Route) api.Addr {
	a := r.Net
	for i := r.Bits; i < width(a.V); i++ {
		a.B[i/8] |= 128 >> (i % 8)
	}
	return a
}

func width(v int) int { return map[int]int{4: 32, 6: 128}[v] }

// One net of each size: all addresses from its first to its last have its link, and one with another bit among the first has none.
func TestEdgesOfNets(t *testing.T) {
	for _, s := range []string{"170.85.170.85", "85.170.85.170", "aaaa:5555:aaaa:5555:aaaa:5555:aaaa:5555", "::", "255.255.255.255", "ffff:ffff:ffff:ffff:ffff:ffff:ffff:ffff"} {
		a := at(t, s)
		for bits := range width(a.V) + 1 {
			net, _ := addr.Mask(a, bits)
			r := api.Route{Net: net, Bits: bits, Link: 9}
			x := made(t, r)
			for _, dst := range []api.Addr{a, net, last(r)} {
				finds(t, x, dst, 9)
				for i := range width(a.V) {
					other := dst
					other.B[i/8] ^= 128 >> (i % 8)
					if i < bits {
						fails(t, x, other, api.ErrRoute)
					} else {
						finds(t, x, other, 9)
					}
				}
			}
		}
	}
}

// Of nets one in the other that with the most bits counts, whatever the order in which they were told.
func TestChainOfNets(t *testing.T) {
	for _, start := range []int{0, 1} {
		var l []api.Route
		for bits := start; bits < start+32; bits++ {
			l = append(l, api.Route{Net: api.Addr{V: 4}, Bits: bits, Link: bits % 16})
		}
		for range 2 {
			x := made(t, l...)
			for i := range 32 {
				dst := api.Addr{V: 4}
				dst.B[i/8] = 128 >> (i % 8)
				if i < start {
					fails(t, x, dst, api.ErrRoute)
				} else {
					finds(t, x, dst, i%16)
				}
			}
			finds(t, x, api.Addr{V: 4}, (start+31)%16)
			fails(t, x, api.Addr{V: 6}, api.ErrRoute)
			slices.Reverse(l)
		}
	}
}

// The nets of the chain of 2001:db8:: differ in their last bits alone.
func TestChainOfLongNets(t *testing.T) {
	var l []api.Route
	for bits := 97; bits <= 128; bits++ {
		net, _ := addr.Mask(at(t, "2001:db8::ffff:ffff"), bits)
		l = append(l, api.Route{Net: net, Bits: bits, Link: bits % 16})
	}
	x := made(t, l...)
	for bits := 97; bits < 128; bits++ {
		dst := at(t, "2001:db8::ffff:ffff")
		dst.B[bits/8] ^= 128 >> (bits % 8)
		finds(t, x, dst, bits%16)
	}
	finds(t, x, at(t, "2001:db8::ffff:ffff"), 0)
	fails(t, x, at(t, "2001:db8::7fff:ffff"), api.ErrRoute)
}

// IPv4 destinations never meet IPv6 nets, nor the other way round, though their bytes are the same.
func TestVersionsApart(t *testing.T) {
	four, six := to(t, "0.0.0.0", 0, 4), to(t, "::", 0, 6)
	x, y, both := made(t, four), made(t, six), made(t, six, four)
	for _, b := range [][16]byte{{}, {10}, {255, 255, 255, 255}, {127, 0, 0, 1}, {224}} {
		a, c := api.Addr{V: 4, B: b}, api.Addr{V: 6, B: b}
		finds(t, x, a, 4)
		fails(t, x, c, api.ErrRoute)
		fails(t, y, a, api.ErrRoute)
		finds(t, y, c, 6)
		finds(t, both, a, 4)
		finds(t, both, c, 6)
	}
	deep := made(t, four, to(t, "a00::", 8, 8))
	finds(t, deep, at(t, "10.0.0.0"), 4)
	finds(t, deep, at(t, "a00::"), 8)
	fails(t, deep, at(t, "b00::"), api.ErrRoute)
}

// The first net has fewer bits than one that it isn't in: just those that the destination lies in count.
func TestSiblings(t *testing.T) {
	x := made(t, to(t, "128.0.0.0", 1, 1), to(t, "64.0.0.0", 2, 2), to(t, "64.0.0.0", 32, 3), to(t, "192.0.0.0", 2, 4), to(t, "192.0.2.0", 31, 5))
	for _, c := range []struct {
		dst  string
		link int
	}{{"128.0.0.0", 1}, {"191.255.255.255", 1}, {"192.0.0.0", 4}, {"255.255.255.255", 4}, {"192.0.2.0", 5}, {"192.0.2.1", 5}, {"192.0.2.2", 4}, {"192.0.1.255", 4}, {"64.0.0.0", 3}, {"64.0.0.1", 2}, {"127.255.255.255", 2}} {
		finds(t, x, at(t, c.dst), c.link)
	}
	fails(t, x, at(t, "63.255.255.255"), api.ErrRoute)
	fails(t, x, at(t, "0.0.0.0"), api.ErrRoute)
}

// many are n routes that may be, but for their number.
func many(n int) []api.Route {
	var l []api.Route
	for i := range n {
		l = append(l, api.Route{Net: api.Addr{V: 4 + 2*(i%2), B: [16]byte{10, byte(i >> 8), byte(i)}}, Bits: 24, Link: i % 16})
	}
	return l
}

func TestHowManyRoutes(t *testing.T) {
	for n := range 33 {
		x := made(t, many(n)...)
		if l := x.All(); len(l) != n {
			t.Errorf("P21.3: All() of %d routes = %v", n, l)
		}
		for _, r := range many(n) {
			finds(t, x, last(r), r.Link)
		}
	}
	for _, n := range []int{33, 34, 64, 65, 1000} {
		refused(t, many(n)...)
	}
	refused(t, make([]api.Route, 33)...)
	refused(t, slices.Repeat(many(1), 33)...)
	refused(t, append(many(32), api.Route{})...)
}

// Two of one net and one number of bits are refused wherever they stand, with one link or with two.
func TestTwins(t *testing.T) {
	for n := 2; n <= 32; n += 5 {
		for i := range n {
			for j := range n {
				if i == j {
					continue
				}
				for _, link := range []int{0, 1, 15} {
					l := many(n)
					l[i] = api.Route{Net: l[j].Net, Bits: l[j].Bits, Link: link}
					refused(t, l...)
				}
			}
		}
	}
	made(t, to(t, "10.0.0.0", 8, 0), to(t, "10.0.0.0", 16, 0), to(t, "0.0.0.0", 0, 0), to(t, "::", 0, 0))
	made(t, to(t, "10.0.0.0", 8, 0), to(t, "a00::", 8, 0), to(t, "11.0.0.0", 8, 0))
}

// One route that may not be spoils the list, wherever it stands.
func TestOneThatMayNotBe(t *testing.T) {
	for _, bad := range []api.Route{{}, to(t, "10.0.0.1", 31, 0), to(t, "10.9.0.0", 33, 0), to(t, "10.9.0.0", 16, 16), to(t, "10.9.0.0", 16, -1), to(t, "10.9.0.0", -1, 0), to(t, "::1", 127, 0)} {
		for i := range 32 {
			l := many(32)
			l[i] = bad
			refused(t, l...)
			refused(t, l[i])
		}
	}
}

// The order is by version, then bytes, then bits; the links don't count.
func TestOrderOfRoutes(t *testing.T) {
	want := []api.Route{
		to(t, "0.0.0.0", 0, 9), to(t, "0.0.0.0", 1, 3), to(t, "0.0.0.0", 32, 1), to(t, "0.0.0.1", 32, 0), to(t, "9.255.0.0", 16, 2),
		to(t, "10.0.0.0", 8, 8), to(t, "10.0.0.0", 9, 7), to(t, "10.0.0.0", 16, 6), to(t, "10.0.1.0", 24, 5), to(t, "10.1.0.0", 16, 4),
		to(t, "128.0.0.0", 1, 15), to(t, "255.0.0.0", 8, 0), to(t, "255.255.255.255", 32, 0),
		to(t, "::", 0, 9), to(t, "::", 2, 8), to(t, "::", 10, 7), to(t, "::1", 128, 1), to(t, "1::", 16, 4), to(t, "a00::", 8, 1), to(t, "2001:db8::", 32, 2),
		to(t, "2001:db8::", 128, 1), to(t, "2001:db8::1", 128, 0), to(t, "ff00::", 8, 0),
	}
	g := source(211)
	for range 500 {
		if l := made(t, g.shuffled(want)...).All(); !slices.Equal(l, want) {
			t.Fatalf("P21.3: All() = %v", l)
		}
	}
}
