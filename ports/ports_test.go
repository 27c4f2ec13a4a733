package ports

import (
	"math"
	"slices"
	"testing"

	"mosaic/api"
)

func four(a, b, c, d byte) api.Addr { return api.Addr{V: 4, B: [16]byte{a, b, c, d}} }

// six is an address of version 6 by its first and its last byte.
func six(first, last byte) api.Addr { return api.Addr{V: 6, B: [16]byte{0: first, 15: last}} }

var (
	any4 = api.Addr{V: 4}
	any6 = api.Addr{V: 6}
	ten  = four(10, 0, 0, 1)
)

func made(t *testing.T, n int) *Ports {
	t.Helper()
	p, e := New(n)
	if p == nil || e != api.OK {
		t.Fatalf("P20.1: New(%d) = %v, %d", n, p, e)
	}
	return p
}

// binds is a Bind and what it has to answer.
func binds(t *testing.T, p *Ports, a api.Addr, port, number, got int) {
	t.Helper()
	if n, q, e := p.Bind(a, port); n != number || q != got || e != api.OK {
		t.Errorf("P20.1: Bind(%v, %d) = %d, %d, %d; want %d, %d", a, port, n, q, e, number, got)
	}
}

// refuses is a Bind that has to be refused with e.
func refuses(t *testing.T, p *Ports, a api.Addr, port int, e api.Errno) {
	t.Helper()
	if n, q, f := p.Bind(a, port); n != 0 || q != 0 || f != e {
		t.Errorf("P20.1: Bind(%v, %d) = %d, %d, %d; want %d", a, port, n, q, f, e)
	}
}

func finds(t *testing.T, p *Ports, dst api.Addr, port, number int) {
	t.Helper()
	if n := p.Find(dst, port); n != number {
		t.Errorf("P20.1: Find(%v, %d) = %d; want %d", dst, port, n, number)
	}
}

// stands asks where a socket is bound.
func stands(t *testing.T, p *Ports, number int, a api.Addr, port int) {
	t.Helper()
	if b, q, e := p.At(number); b != a || q != port || e != api.OK {
		t.Errorf("P20.1: At(%d) = %v, %d, %d; want %v, %d", number, b, q, e, a, port)
	}
}

// unbound asks At and Close of a number that is not bound.
func unbound(t *testing.T, p *Ports, numbers ...int) {
	t.Helper()
	for _, n := range numbers {
		if a, port, e := p.At(n); a != (api.Addr{}) || port != 0 || e != api.ErrArg {
			t.Errorf("P20.1: At(%d) = %v, %d, %d", n, a, port, e)
		}
		if e := p.Close(n); e != api.ErrArg {
			t.Errorf("P20.1: Close(%d) = %d", n, e)
		}
	}
}

func closes(t *testing.T, p *Ports, number int) {
	t.Helper()
	if e := p.Close(number); e != api.OK {
		t.Errorf("P20.1: Close(%d) = %d", number, e)
	}
}

func all(t *testing.T, p *Ports, want ...int) {
	t.Helper()
	if l := p.All(); !slices.Equal(l, want) {
		t.Errorf("P20.1: All() = %v; want %v", l, want)
	}
}

func TestNew(t *testing.T) {
	for n := -3; n <= 70; n++ {
		p, e := New(n)
		if taken := n >= 1 && n <= 32; taken != (e == api.OK) || taken != (p != nil) || !taken && e != api.ErrArg {
			t.Errorf("P20.1: New(%d) = %v, %d", n, p, e)
		}
		if p != nil {
			all(t, p)
			unbound(t, p, 0, 1, 2, n, -1)
			finds(t, p, any4, 0, 0)
			finds(t, p, ten, 49152, 0)
		}
	}
	for _, n := range []int{math.MinInt, math.MinInt32, -32, 1 << 16, 1<<32 + 2, math.MaxInt32, math.MaxInt} {
		if p, e := New(n); p != nil || e != api.ErrArg {
			t.Errorf("P20.1: New(%d) = %v, %d", n, p, e)
		}
	}
}

func TestExamples(t *testing.T) {
	p := made(t, 3)
	binds(t, p, ten, 53, 1, 53)
	refuses(t, p, ten, 53, api.ErrInUse)
	binds(t, p, any4, 53, 2, 53)
	finds(t, p, ten, 53, 1)
	finds(t, p, four(10, 0, 0, 9), 53, 2)
	finds(t, p, ten, 54, 0)
	finds(t, p, six(0, 1), 53, 0)
	binds(t, p, any6, 0, 3, 49152)
	refuses(t, p, any6, 7, api.ErrSpent)
	refuses(t, p, any4, 53, api.ErrInUse)
	closes(t, p, 1)
	unbound(t, p, 1)
	finds(t, p, ten, 53, 2)
	binds(t, p, ten, 0, 4, 49152)
	all(t, p, 2, 3, 4)
	for _, a := range []api.Addr{four(127, 0, 0, 1), four(224, 0, 0, 1), four(255, 255, 255, 255), {V: 5}} {
		refuses(t, p, a, 1, api.ErrArg)
	}
	refuses(t, p, ten, 65536, api.ErrArg)
	refuses(t, p, ten, -1, api.ErrArg)
}

// mayNot are addresses to which no socket is bound: of another kind, and some that are none.
func mayNot() []api.Addr {
	return []api.Addr{
		four(127, 0, 0, 0), four(127, 0, 0, 1), four(127, 255, 255, 255),
		four(224, 0, 0, 0), four(230, 1, 2, 3), four(239, 255, 255, 255), four(255, 255, 255, 255),
		six(0, 1), six(255, 0), six(255, 1),
		{}, {V: 5}, {V: 5, B: [16]byte{10, 0, 0, 1}}, {V: -4}, {V: math.MaxInt}, {V: math.MinInt}, {V: 1<<32 + 4},
		{V: 4, B: [16]byte{4: 1}}, {V: 4, B: [16]byte{10, 0, 0, 1, 1}}, {V: 4, B: [16]byte{0: 10, 15: 1}},
	}
}

// may are addresses at the edges of those, to which sockets are bound.
func may() []api.Addr {
	return []api.Addr{
		any4, any6, four(0, 0, 0, 1), four(1, 0, 0, 0), four(126, 255, 255, 255), four(128, 0, 0, 0), four(223, 255, 255, 255),
		four(240, 0, 0, 0), four(254, 255, 255, 255), four(255, 255, 255, 254), four(255, 0, 0, 0),
		six(0, 2), six(1, 0), six(254, 255), six(127, 1), six(224, 0), {V: 6, B: [16]byte{14: 1}}, {V: 6, B: [16]byte{14: 1, 15: 1}},
	}
}

func TestKinds(t *testing.T) {
	p := made(t, 32)
	for i, a := range may() {
		binds(t, p, a, 7, i+1, 7)
		stands(t, p, i+1, a, 7)
		for _, b := range mayNot() {
			refuses(t, p, b, 7, api.ErrArg)
			refuses(t, p, b, 0, api.ErrArg)
		}
	}
	for i, a := range may() {
		finds(t, p, a, 7, i+1)
		refuses(t, p, a, 7, api.ErrInUse)
	}
}

// Every port from 1 to 65535 is bound as it is told; none beside them is.
func TestEachPort(t *testing.T) {
	for port := 1; port <= 65535; port++ {
		p := made(t, 1)
		if n, q, e := p.Bind(ten, port); n != 1 || q != port || e != api.OK {
			t.Fatalf("P20.1: Bind(%v, %d) = %d, %d, %d", ten, port, n, q, e)
		}
		if p.Find(ten, port) != 1 || p.Find(ten, port+1) != 0 || p.Find(ten, port-1) != 0 || p.Find(any4, port) != 0 {
			t.Fatalf("P20.2: what is bound to port %d", port)
		}
	}
	p := made(t, 2)
	binds(t, p, any4, 0, 1, 49152)
	for _, port := range wildPorts() {
		for _, a := range []api.Addr{ten, any4, any6} {
			refuses(t, p, a, port, api.ErrArg)
			finds(t, p, a, port, 0)
		}
	}
	finds(t, p, any4, 0, 0)
	all(t, p, 1)
}

// wildPorts are no ports; some of them end in the bits of one that is bound in the tests.
func wildPorts() []int {
	return []int{-1, 65536, 65536 + 7, 65536 + 49152, 1<<32 + 7, 1<<32 + 49152, 7 - 1<<16, math.MinInt, math.MinInt + 7, math.MaxInt, -7}
}

// Where several errors apply, the first of ErrArg, ErrInUse, ErrSpent is told, full or not.
func TestOrderOfErrors(t *testing.T) {
	p := made(t, 1)
	binds(t, p, ten, 7, 1, 7)
	refuses(t, p, four(127, 0, 0, 1), 7, api.ErrArg)
	refuses(t, p, four(127, 0, 0, 1), 0, api.ErrArg)
	refuses(t, p, ten, 65536, api.ErrArg)
	refuses(t, p, ten, 7, api.ErrInUse)
	refuses(t, p, ten, 8, api.ErrSpent)
	refuses(t, p, ten, 0, api.ErrSpent)
	refuses(t, p, any4, 7, api.ErrSpent)
	closes(t, p, 1)
	binds(t, p, any4, 7, 2, 7)
}

// Any and an address stand side by side, in whatever order they came; each takes what is its own.
func TestSideBySide(t *testing.T) {
	for _, v := range []struct{ any, one, other, foreign api.Addr }{
		{any4, ten, four(10, 0, 0, 2), six(10, 1)},
		{any6, six(32, 1), six(32, 2), ten},
	} {
		for _, turned := range []bool{false, true} {
			p := made(t, 2)
			first, second := v.any, v.one
			if turned {
				first, second = second, first
			}
			binds(t, p, first, 53, 1, 53)
			binds(t, p, second, 53, 2, 53)
			finds(t, p, first, 53, 1)
			finds(t, p, second, 53, 2)
			finds(t, p, v.other, 53, p.Find(v.any, 53))
			finds(t, p, v.foreign, 53, 0)
			refuses(t, p, v.one, 53, api.ErrInUse)
			refuses(t, p, v.any, 53, api.ErrInUse)
			closes(t, p, p.Find(v.one, 53))
			finds(t, p, v.one, 53, p.Find(v.any, 53))
			closes(t, p, p.Find(v.any, 53))
			finds(t, p, v.one, 53, 0)
			finds(t, p, v.any, 53, 0)
		}
	}
}

// What is bound to any is found by the version alone, whatever the bytes are; what is bound to an address by that one alone.
func TestFindOfWhateverBytes(t *testing.T) {
	p := made(t, 4)
	binds(t, p, any4, 7, 1, 7)
	binds(t, p, any6, 7, 2, 7)
	binds(t, p, ten, 8, 3, 8)
	for _, a := range append(may(), mayNot()...) {
		want := 0
		switch a.V {
		case 4:
			want = 1
		case 6:
			want = 2
		}
		finds(t, p, a, 7, want)
		finds(t, p, a, 8, 0)
		finds(t, p, a, 9, 0)
	}
	finds(t, p, ten, 8, 3)
	for i := range 128 {
		a := ten
		a.B[i/8] ^= 1 << (i % 8)
		finds(t, p, a, 8, 0)
		finds(t, p, a, 7, 1)
	}
	for i := range 64 {
		a := ten
		a.V ^= 1 << i
		finds(t, p, a, 8, 0)
		finds(t, p, ten, 8^1<<i, map[bool]int{true: 1}[8^1<<i == 7])
	}
}

// For the port 0 the least from 49152 on is given that is not bound with just this address.
func TestLeastFreePort(t *testing.T) {
	p := made(t, 32)
	binds(t, p, ten, 49153, 1, 49153)
	binds(t, p, ten, 49151, 2, 49151)
	binds(t, p, ten, 0, 3, 49152)
	binds(t, p, ten, 0, 4, 49154)
	binds(t, p, any4, 0, 5, 49152) // each address has ports of its own
	binds(t, p, any6, 0, 6, 49152)
	binds(t, p, four(10, 0, 0, 2), 0, 7, 49152)
	binds(t, p, any6, 0, 8, 49153)
	closes(t, p, 1)
	binds(t, p, ten, 0, 9, 49153)
	closes(t, p, 3)
	closes(t, p, 4)
	binds(t, p, ten, 0, 10, 49152)
	binds(t, p, ten, 49155, 11, 49155)
	binds(t, p, ten, 0, 12, 49154)
	binds(t, p, ten, 0, 13, 49156)
	refuses(t, p, ten, 49156, api.ErrInUse)
	stands(t, p, 13, ten, 49156)
	all(t, p, 2, 5, 6, 7, 8, 9, 10, 11, 12, 13)
}

// With all of them at one address, the ports rise from 49152 on, and behind a Close the least one that is free comes next.
func TestManyFreePorts(t *testing.T) {
	for n := 1; n <= 32; n++ {
		p := made(t, n)
		for i := range n {
			binds(t, p, ten, 0, i+1, 49152+i)
		}
		refuses(t, p, ten, 0, api.ErrSpent)
		refuses(t, p, any6, 0, api.ErrSpent)
		for i := range n {
			closes(t, p, i+1)
			binds(t, p, ten, 0, n+i+1, 49152+i)
		}
	}
}

// No Ports that New gives has so many sockets that every port is bound; the rule for it holds none the less.
func TestEachFreePortIsBound(t *testing.T) {
	p := &Ports{most: 1 << 20}
	for port := 49152; port <= 65535; port++ {
		p.last++
		p.bound = append(p.bound, binding{p.last, ten, port})
	}
	refuses(t, p, ten, 0, api.ErrSpent)
	binds(t, p, any4, 0, 16385, 49152)
	closes(t, p, 16384)
	binds(t, p, ten, 0, 16386, 65535)
	refuses(t, p, ten, 65535, api.ErrInUse)
	refuses(t, p, ten, 0, api.ErrSpent)
}

// A number is never given out again, and none is left out: a refused Bind takes none.
func TestNumbers(t *testing.T) {
	p := made(t, 2)
	for n := 1; n < 5000; n++ {
		if number, _, e := p.Bind(ten, 7); number != n || e != api.OK {
			t.Fatalf("P20.3: Bind = %d, %d; want %d", number, e, n)
		}
		refuses(t, p, ten, 7, api.ErrInUse)
		refuses(t, p, ten, -7, api.ErrArg)
		unbound(t, p, 0, -n, n-1, n+1)
		all(t, p, n)
		closes(t, p, n)
		unbound(t, p, n)
		all(t, p)
	}
}

func TestWildNumbers(t *testing.T) {
	p := made(t, 3)
	binds(t, p, ten, 7, 1, 7)
	binds(t, p, any4, 7, 2, 7)
	binds(t, p, any6, 7, 3, 7)
	closes(t, p, 2)
	unbound(t, p, 0, -1, 2, 4, 5, 1<<32, 1<<32+1, 1<<32+3, 1<<16+1, math.MaxInt, math.MinInt, math.MinInt+1)
	all(t, p, 1, 3)
	stands(t, p, 1, ten, 7)
	stands(t, p, 3, any6, 7)
}
