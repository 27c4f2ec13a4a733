package addr

import (
	"math"
	"math/big"
	"slices"
	"testing"

	"mosaic/api"
)

// source is a plain generator, so that every run sees the same inputs.
type source uint64

func (s *source) next() uint64 {
	*s ^= *s << 13
	*s ^= *s >> 7
	*s ^= *s << 17
	return uint64(*s)
}

func (s *source) below(n int) int { return int((s.next() >> 11) % uint64(n)) }

// bytes are often 0, at times 255 or 1, so that runs of noughts and kinds come up.
func (s *source) bytes(b []byte) {
	for i := range b {
		switch s.below(8) {
		case 0, 1, 2, 3:
			b[i] = 0
		case 4:
			b[i] = 255
		case 5:
			b[i] = 1
		default:
			b[i] = byte(s.next() >> 30)
		}
	}
}

// address is right or, one time in six, none.
func (s *source) address() api.Addr {
	a := api.Addr{V: 4}
	switch s.below(6) {
	case 0, 1:
		s.bytes(a.B[:4])
	case 2, 3, 4:
		a.V = 6
		s.bytes(a.B[:])
	default:
		a.V = []int{4, 5, 0, -4, -6, 7, math.MinInt, math.MaxInt, 1<<32 + 4}[s.below(9)]
		s.bytes(a.B[:])
	}
	return a
}

// near is a with at most one bit changed.
func (s *source) near(a api.Addr) api.Addr {
	n := s.below(129)
	if a.V == 4 {
		n = s.below(33)
	}
	if n < 128 && (a.V != 4 || n < 32) {
		a.B[n/8] ^= 128 >> (n % 8)
	}
	return a
}

func v4(a, b, c, d byte) api.Addr { return api.Addr{V: 4, B: [16]byte{a, b, c, d}} }

func v6(groups ...int) api.Addr {
	a := api.Addr{V: 6}
	for i, g := range groups {
		a.B[2*i], a.B[2*i+1] = byte(g>>8), byte(g)
	}
	return a
}

// isAddress is the document's word, byte by byte.
func isAddress(a api.Addr) bool {
	if a.V != 4 {
		return a.V == 6
	}
	for _, b := range a.B[4:] {
		if b != 0 {
			return false
		}
	}
	return true
}

// asNumber is the address as one number, and how many bits it has.
func asNumber(a api.Addr) (*big.Int, int) {
	if a.V == 4 {
		return new(big.Int).SetBytes(a.B[:4]), 32
	}
	return new(big.Int).SetBytes(a.B[:]), 128
}

var oddBits = []int{-1, -2, -8, 33, 34, 40, 129, 130, 136, 256, math.MinInt, math.MinInt + 7, math.MaxInt, 1 << 32, 1<<32 + 8, -1 << 32}

func (s *source) bits() int {
	if s.below(5) == 0 {
		return oddBits[s.below(len(oddBits))]
	}
	return s.below(130) >> s.below(4)
}

// mask is the document's Mask by numbers.
func mask(a api.Addr, bits int) (api.Addr, api.Errno) {
	if !isAddress(a) || bits < 0 {
		return api.Addr{}, api.ErrArg
	}
	n, width := asNumber(a)
	if bits > width {
		return api.Addr{}, api.ErrArg
	}
	n.Rsh(n, uint(width-bits)).Lsh(n, uint(width-bits))
	m := api.Addr{V: a.V}
	n.FillBytes(m.B[:width/8])
	return m, api.OK
}

func TestValid(t *testing.T) {
	for _, v := range []int{math.MinInt, -6, -4, -1, 0, 1, 3, 5, 7, 46, 1<<32 + 4, 1<<32 + 6, math.MaxInt} {
		a := api.Addr{V: v, B: [16]byte{1}}
		if Valid(a) || Kind(a) != 0 || Print(a) != "" || Valid(api.Addr{V: v}) || Kind(api.Addr{V: v}) != 0 {
			t.Fatalf("P3.1: V %d is an address", v)
		}
	}
	for i := range 16 {
		for bit := range 8 {
			a := api.Addr{V: 4}
			a.B[i] = 1 << bit
			if Valid(a) != (i < 4) || (Kind(a) == 0) != (i >= 4) || (Print(a) == "") != (i >= 4) {
				t.Fatalf("P3.1: V 4 with byte %d: %v", i, Valid(a))
			}
			a.V = 6
			if !Valid(a) || Kind(a) == 0 || Print(a) == "" {
				t.Fatalf("P3.1: V 6 with byte %d is no address", i)
			}
		}
	}
	if !Valid(api.Addr{V: 4}) || !Valid(api.Addr{V: 6}) {
		t.Fatal("P3.1: 0.0.0.0 or :: is no address")
	}
	s := source(31)
	for range 5000 {
		if a := s.address(); Valid(a) != isAddress(a) {
			t.Fatalf("P3.1: Valid(%v) = %v", a, Valid(a))
		}
	}
}

// kindOf goes by the nets of the table.
func kindOf(a api.Addr) []int {
	var kinds []int
	for _, c := range []struct {
		net  api.Addr
		bits int
		kind int
	}{
		{v4(0, 0, 0, 0), 32, api.Unspecified},
		{v4(127, 0, 0, 0), 8, api.Loopback},
		{v4(224, 0, 0, 0), 4, api.Multicast},
		{v4(255, 255, 255, 255), 32, api.Broadcast},
		{v6(0), 128, api.Unspecified},
		{v6(0, 0, 0, 0, 0, 0, 0, 1), 128, api.Loopback},
		{v6(0xff00), 8, api.Multicast},
	} {
		if Within(a, c.net, c.bits) {
			kinds = append(kinds, c.kind)
		}
	}
	if kinds == nil && isAddress(a) {
		kinds = []int{api.Plain}
	}
	if kinds == nil {
		kinds = []int{0}
	}
	return kinds
}

func TestKinds(t *testing.T) {
	odd := v4(127, 0, 0, 1)
	odd.B[15] = 1
	for _, c := range []struct {
		a    api.Addr
		kind int
	}{
		{v4(0, 0, 0, 0), 1}, {v4(0, 0, 0, 1), 5}, {v4(0, 1, 0, 0), 5}, {v4(126, 255, 255, 255), 5},
		{v4(127, 0, 0, 0), 2}, {v4(127, 0, 0, 1), 2}, {v4(127, 255, 255, 255), 2}, {v4(128, 0, 0, 0), 5},
		{v4(223, 255, 255, 255), 5}, {v4(224, 0, 0, 0), 3}, {v4(239, 255, 255, 255), 3}, {v4(240, 0, 0, 0), 5}, {v4(240, 0, 0, 1), 5},
		{v4(255, 255, 255, 254), 5}, {v4(255, 255, 255, 255), 4}, {v4(255, 0, 0, 0), 5}, {v4(254, 255, 255, 255), 5}, {v4(10, 0, 0, 1), 5},
		{v6(0), 1}, {v6(0, 0, 0, 0, 0, 0, 0, 1), 2}, {v6(0, 0, 0, 0, 0, 0, 0, 2), 5}, {v6(0, 0, 0, 0, 0, 0, 0, 0x101), 5}, {v6(1, 0, 0, 0, 0, 0, 0, 1), 5},
		{v6(0xfeff, 0xffff, 0xffff, 0xffff, 0xffff, 0xffff, 0xffff, 0xffff), 5}, {v6(0xff00), 3}, {v6(0xffff, 0xffff, 0xffff, 0xffff, 0xffff, 0xffff, 0xffff, 0xffff), 3},
		{v6(0xff02, 0, 0, 0, 0, 0, 0, 1), 3}, {v6(0xfe80, 0, 0, 0, 0, 0, 0, 1), 5}, {v6(0x7f00), 5}, {v6(0xe000), 5}, {v6(0, 0, 0, 0, 0, 0xffff, 0x7f00, 1), 5},
		{odd, 0}, {api.Addr{}, 0}, {api.Addr{V: 5}, 0}, {api.Addr{V: 127, B: [16]byte{127}}, 0},
	} {
		if k := Kind(c.a); k != c.kind {
			t.Fatalf("P3.5: Kind(%v) = %d, not %d", c.a, k, c.kind)
		}
	}
	s := source(32)
	for i := range 20000 {
		a := s.address()
		if i < 512 {
			a = api.Addr{V: 4 + i/256*2, B: [16]byte{byte(i)}}
		}
		if want := kindOf(a); len(want) != 1 || Kind(a) != want[0] {
			t.Fatalf("P3.5: Kind(%v) = %d, not %v", a, Kind(a), want)
		}
	}
}

func TestOrder(t *testing.T) {
	for _, c := range []struct {
		a, b api.Addr
		want bool
	}{
		{v4(255, 255, 255, 255), v6(0), true}, {v6(0), v4(255, 255, 255, 255), false},
		{v4(1, 2, 3, 4), v4(1, 2, 3, 5), true}, {v4(1, 2, 3, 5), v4(1, 2, 3, 4), false}, {v4(1, 2, 3, 4), v4(1, 2, 3, 4), false},
		{v4(0, 255, 255, 255), v4(1, 0, 0, 0), true}, {v4(127, 0, 0, 0), v4(128, 0, 0, 0), true}, {v4(9, 0, 0, 0), v4(10, 0, 0, 0), true},
		{v6(0x7fff), v6(0x8000), true}, {v6(0xff), v6(0x100), true}, {v6(0, 0, 0, 0, 0, 0, 0, 1), v6(0), false},
		// It is told of any two.
		{api.Addr{}, api.Addr{}, false}, {api.Addr{V: -1, B: [16]byte{9}}, api.Addr{}, true}, {api.Addr{}, api.Addr{V: -1}, false},
		{api.Addr{V: math.MinInt}, api.Addr{V: math.MaxInt}, true}, {api.Addr{V: math.MaxInt}, api.Addr{V: math.MinInt}, false},
		{api.Addr{V: 5, B: [16]byte{15: 1}}, api.Addr{V: 5, B: [16]byte{15: 2}}, true},
		{api.Addr{V: 4, B: [16]byte{15: 1}}, api.Addr{V: 4}, false}, {api.Addr{V: 4}, api.Addr{V: 4, B: [16]byte{4: 1}}, true},
	} {
		if Less(c.a, c.b) != c.want {
			t.Fatalf("P3.3: Less(%v, %v) = %v", c.a, c.b, !c.want)
		}
	}
	s := source(33)
	for range 20000 {
		a := s.address()
		b, c := s.near(a), s.near(a)
		if s.below(3) == 0 {
			c = s.address()
		}
		if Less(a, a) || (a != b) != (Less(a, b) != Less(b, a)) {
			t.Fatalf("P3.3: %v and %v: %v and %v", a, b, Less(a, b), Less(b, a))
		}
		if Less(a, b) && Less(b, c) && !Less(a, c) {
			t.Fatalf("P3.3: %v, %v, %v are no order", a, b, c)
		}
		want := a.V < c.V || a.V == c.V && slices.Compare(a.B[:], c.B[:]) < 0
		if Less(a, c) != want {
			t.Fatalf("P3.1: Less(%v, %v) = %v", a, c, !want)
		}
	}
}

func TestMask(t *testing.T) {
	a, b := v4(192, 0, 2, 129), v6(0x2001, 0xdb8, 0, 0, 0, 0, 0, 0xffff)
	odd := a
	odd.B[4] = 1
	for _, c := range []struct {
		a    api.Addr
		bits int
		want api.Addr
		e    api.Errno
	}{
		{a, 25, v4(192, 0, 2, 128), api.OK}, {a, 0, v4(0, 0, 0, 0), api.OK}, {a, 1, v4(128, 0, 0, 0), api.OK}, {a, 31, v4(192, 0, 2, 128), api.OK}, {a, 32, a, api.OK},
		{a, 33, api.Addr{}, api.ErrArg}, {a, 128, api.Addr{}, api.ErrArg}, {a, -1, api.Addr{}, api.ErrArg},
		{b, 0, v6(0), api.OK}, {b, 127, v6(0x2001, 0xdb8, 0, 0, 0, 0, 0, 0xfffe), api.OK}, {b, 128, b, api.OK}, {b, 33, v6(0x2001, 0xdb8), api.OK},
		{b, 129, api.Addr{}, api.ErrArg}, {b, -1, api.Addr{}, api.ErrArg}, {b, math.MinInt, api.Addr{}, api.ErrArg}, {b, math.MaxInt, api.Addr{}, api.ErrArg},
		{odd, 8, api.Addr{}, api.ErrArg}, {api.Addr{V: 5}, 0, api.Addr{}, api.ErrArg}, {api.Addr{}, 0, api.Addr{}, api.ErrArg},
	} {
		if m, e := Mask(c.a, c.bits); m != c.want || e != c.e {
			t.Fatalf("P3.1: Mask(%v, %d) = %v, %d", c.a, c.bits, m, e)
		}
	}
	ones4, ones6 := v4(255, 255, 255, 255), v6(0xffff, 0xffff, 0xffff, 0xffff, 0xffff, 0xffff, 0xffff, 0xffff)
	for _, a := range []api.Addr{ones4, ones6, a, b} {
		for bits := -2; bits < 132; bits++ {
			m, e := Mask(a, bits)
			if want, we := mask(a, bits); m != want || e != we {
				t.Fatalf("P3.1: Mask(%v, %d) = %v, %d, not %v, %d", a, bits, m, e, want, we)
			}
		}
	}
}

func TestNets(t *testing.T) {
	a, odd := v4(192, 0, 2, 129), v4(1, 2, 3, 4)
	odd.B[5] = 1
	for _, c := range []struct {
		a, net api.Addr
		bits   int
		want   bool
	}{
		{a, v4(192, 0, 2, 1), 24, true}, {a, v4(192, 0, 2, 1), 25, false}, {a, v4(192, 0, 2, 1), 0, true}, {a, v4(1, 1, 1, 1), 0, true},
		{a, a, 32, true}, {a, v4(192, 0, 2, 128), 32, false}, {a, v4(192, 0, 2, 128), 31, true}, {a, a, 33, false}, {a, a, -1, false}, {a, a, math.MinInt, false},
		{v4(10, 0, 0, 1), v6(0), 0, false}, {v6(0), v4(0, 0, 0, 0), 0, false}, {v4(0, 0, 0, 0), v6(0), 32, false},
		{v6(0, 0, 0, 1), v6(0), 63, true}, {v6(0, 0, 0, 1), v6(0), 64, false}, {v6(1), v6(1), 128, true}, {v6(1), v6(1), 129, false},
		{odd, odd, 0, false}, {odd, v4(1, 2, 3, 4), 8, false}, {v4(1, 2, 3, 4), odd, 8, false},
		{api.Addr{}, api.Addr{}, 0, false}, {api.Addr{V: 5}, api.Addr{V: 5}, 0, false}, {v6(0), api.Addr{V: 7}, 0, false},
	} {
		if Within(c.a, c.net, c.bits) != c.want {
			t.Fatalf("P3.1: Within(%v, %v, %d) = %v", c.a, c.net, c.bits, !c.want)
		}
	}
	s := source(34)
	for range 40000 {
		a := s.address()
		b := s.near(a)
		if s.below(4) == 0 {
			b = s.address()
		}
		holdNets(t, a, b, s.bits(), s.bits())
	}
}

func holdNets(t *testing.T, a, b api.Addr, n, m int) {
	t.Helper()
	an, e := Mask(a, n)
	if want, we := mask(a, n); an != want || e != we {
		t.Fatalf("P3.1: Mask(%v, %d) = %v, %d, not %v, %d", a, n, an, e, want, we)
	}
	bn, be := mask(b, n)
	in := Within(a, b, n)
	if in != (e == api.OK && be == api.OK && an == bn) {
		t.Fatalf("P3.4: Within(%v, %v, %d) = %v", a, b, n, in)
	}
	if e == api.OK && an != a && !Less(an, a) {
		t.Fatalf("P3.4: Mask(%v, %d) = %v comes behind", a, n, an)
	}
	if _, me := mask(a, m); e != api.OK || me != api.OK {
		return
	}
	twice, _ := Mask(an, m)
	if once, _ := Mask(a, min(n, m)); twice != once {
		t.Fatalf("P3.4: Mask(Mask(%v, %d), %d) = %v, not %v", a, n, m, twice, once)
	}
	if in && m < n && !Within(a, b, m) {
		t.Fatalf("P3.4: Within(%v, %v, %d) but not with %d", a, b, n, m)
	}
}
