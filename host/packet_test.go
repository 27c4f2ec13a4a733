package host

import (
	"bytes"
	"math"
	"slices"
	"testing"

	"mosaic/api"
	"mosaic/cut"
	"mosaic/icmp"
	"mosaic/udp"
)

// datagram is a whole UDP packet, laid.
func datagram(t *testing.T, src, dst api.Addr, sport, dport int, data []byte) []byte {
	t.Helper()
	return laid(t, datagramPacket(t, src, dst, sport, dport, data))
}

func datagramPacket(t *testing.T, src, dst api.Addr, sport, dport int, data []byte) api.Packet {
	t.Helper()
	b, e := udp.Build(src, dst, api.Dgram{SPort: sport, DPort: dport, Data: data})
	if e != api.OK {
		t.Fatal(e)
	}
	return api.Packet{V: src.V, Src: src, Dst: dst, Proto: 17, TTL: 5, Data: b}
}

// pieces are the fragments of a packet, laid.
func pieces(t *testing.T, p api.Packet, mtu int, id uint32) [][]byte {
	t.Helper()
	if p.V == 4 {
		p.ID = id
	}
	l, e := cut.Cut(p, mtu, id)
	if e != api.OK {
		t.Fatal(e)
	}
	var out [][]byte
	for _, q := range l {
		out = append(out, laid(t, q))
	}
	return out
}

func TestNoPacket(t *testing.T) {
	h := made(t, dualConfig(1))
	binds(t, h, any4, 7, 1, 7)
	good := datagram(t, four(2), four(1), 5, 7, []byte("hi"))
	good6 := datagram(t, six(2), six(1), 5, 7, []byte("hi"))
	sum := bytes.Clone(good)
	sum[10]++
	bad := [][]byte{nil, {}, {0}, []byte("none"), good[:19], good[:len(good)-1], append(bytes.Clone(good), 0), sum, good6[:39], good6[:len(good6)-1], append(bytes.Clone(good6), 0), make([]byte, 70000)}
	for i, b := range bad {
		quiet(t, h, b)
		counts(t, h, [8]int{0: i + 1})
	}
	recvFails(t, h, 1, api.ErrEmpty)
}

func TestNotOurs(t *testing.T) {
	h := made(t, dualConfig(1))
	binds(t, h, any4, 7, 1, 7)
	binds(t, h, any6, 7, 2, 7)
	n := 0
	for _, dst := range []api.Addr{four(2), any4, {V: 4, B: [16]byte{255, 255, 255, 255}}, {V: 4, B: [16]byte{224, 0, 0, 1}}, {V: 4, B: [16]byte{127, 0, 0, 1}}, six(2), any6, {V: 6, B: [16]byte{15: 1}}, {V: 6, B: [16]byte{255, 2}}, {V: 6, B: four(1).B}} {
		src := four(9)
		if dst.V == 6 {
			src = six(9)
		}
		quiet(t, h, datagram(t, src, dst, 5, 7, nil))
		l := pieces(t, datagramPacket(t, src, dst, 5, 7, make([]byte, 3000)), 1500, 3)
		quiet(t, h, l...)
		n += 1 + len(l)
		counts(t, h, [8]int{1: n})
	}
	if s := h.State(); len(s.Keys) != 0 || !slices.Equal(s.Queues, []int{0, 0}) {
		t.Errorf("P22.1: State = %+v", s)
	}
}

// What stands in the table is counted nowhere.
func TestParts(t *testing.T) {
	h := made(t, dualConfig(1))
	binds(t, h, any4, 7, 1, 7)
	binds(t, h, any6, 7, 2, 7)
	p, q := datagramPacket(t, four(2), four(1), 5, 7, pattern(3000)), datagramPacket(t, six(2), six(1), 5, 7, pattern(4000))
	l, m := pieces(t, p, 1500, 3), pieces(t, q, 1500, 4)
	quiet(t, h, l[2], m[0], l[0], m[2], l[2], m[0])
	k4, k6 := api.Key{V: 4, Src: four(2), Dst: four(1), Proto: 17, ID: 3}, api.Key{V: 6, Src: six(2), Dst: six(1), Proto: 17, ID: 4}
	if s := h.State(); !slices.Equal(s.Keys, []api.Key{k4, k6}) || s.Bytes != 3008-1480+4008-1448 || s.Counts != [8]int{} {
		t.Errorf("P22.1: State = %+v", s)
	}
	quiet(t, h, l[1])
	receives(t, h, 1, api.Got{Src: four(2), SPort: 5, Dst: four(1), DPort: 7, Data: pattern(3000)})
	quiet(t, h, m[1])
	receives(t, h, 2, api.Got{Src: six(2), SPort: 5, Dst: six(1), DPort: 7, Data: pattern(4000)})
	if s := h.State(); len(s.Keys) != 0 || s.Bytes != 0 || s.Counts != [8]int{} {
		t.Errorf("P22.1: State = %+v", s)
	}
}

// notToRead are datagrams that are none of ours to read: of other protocols, and of ours, but spoilt.
func notToRead(t *testing.T) []api.Packet {
	t.Helper()
	var l []api.Packet
	for _, src := range []api.Addr{four(2), six(2)} {
		dst := four(1)
		protos := []int{0, 2, 6, 16, 18, 58, 99, 255}
		if src.V == 6 {
			dst = six(1)
			protos = []int{0, 1, 2, 6, 16, 18, 43, 59, 255}
		}
		p := datagramPacket(t, src, dst, 5, 7, pattern(20))
		for _, proto := range protos {
			q := p
			q.Proto = proto
			l = append(l, q)
		}
		short, sum, size := p, p, p
		short.Data = p.Data[:7]
		sum.Data = slices.Concat(p.Data[:20], []byte{^p.Data[20]}, p.Data[21:])
		size.Data = p.Data[:20]
		echo, _ := icmp.Build(src, dst, api.Message{V: src.V, Type: 8, Body: pattern(20)})
		a := api.Packet{V: p.V, Src: src, Dst: dst, Proto: protoICMP(p.V), TTL: 5, Data: echo}
		b, c, swapped := a, a, a
		swapped.Proto = protoICMP(10 - p.V) // a right message, under the other version's number
		a.Data = echo[:7]
		b.Data = slices.Concat(echo[:9], []byte{^echo[9]}, echo[10:])
		c.Data = nil
		l = append(l, short, sum, size, a, b, c, swapped)
	}
	none := datagramPacket(t, six(2), six(1), 5, 7, nil)
	none.Data = bytes.Clone(none.Data)
	none.Data[6], none.Data[7] = 0, 0 // version 6 must have a checksum
	return append(l, none)
}

func TestNotToRead(t *testing.T) {
	h := made(t, dualConfig(1))
	binds(t, h, any4, 7, 1, 7)
	binds(t, h, any6, 7, 2, 7)
	n := 0
	for i, p := range notToRead(t) {
		quiet(t, h, laid(t, p))
		n++
		if len(p.Data) > 8 {
			// The same in two pieces.
			a, b := p, p
			a.ID, a.More, a.Data = uint32(i), true, p.Data[:8]
			b.ID, b.Off, b.Data = uint32(i), 8, p.Data[8:]
			a.Frag, b.Frag = p.V == 6, p.V == 6
			quiet(t, h, laid(t, b), laid(t, a))
			n++
		}
		counts(t, h, [8]int{2: n})
	}
	if s := h.State(); !slices.Equal(s.Queues, []int{0, 0}) || len(s.Keys) != 0 {
		t.Errorf("P22.1: State = %+v", s)
	}
}

// noPort sees that b is answered by NoPort about those bytes, and answers the message's packet.
func noPort(t *testing.T, h *Host, b, quoted []byte) api.Packet {
	t.Helper()
	out := h.Packet(b)
	if len(out) != 1 {
		t.Fatalf("P22.1: NoPort: %d packets", len(out))
	}
	p, m := message(t, out[0].Bytes)
	want, _ := icmp.NoPort(quoted)
	if m.Type != want.Type || m.Code != want.Code || m.Rest != 0 || !bytes.Equal(m.Body, want.Body) {
		t.Errorf("P22.1: NoPort: %+v; want %+v", m, want)
	}
	if q := taken(t, quoted); p.Src != q.Dst || p.Dst != q.Src || p.TTL != 64 || p.TOS != 0 || p.Flow != 0 || p.DF || p.Frag || len(p.Opts) != 0 {
		t.Errorf("P22.1: NoPort: %+v", p)
	}
	return p
}

func TestNoSocket(t *testing.T) {
	c := dualConfig(1)
	c.Addrs = append(c.Addrs, four(5), six(5))
	h := made(t, c)
	binds(t, h, four(5), 7, 1, 7)
	binds(t, h, any6, 8, 2, 8)
	n := 0
	for _, port := range []int{0, 7, 8, 49152, 65535} {
		b := datagram(t, four(2), four(1), 5, port, pattern(100))
		if p := noPort(t, h, b, b); p.ID != uint32(n) || p.V != 4 {
			t.Errorf("P22.1: NoPort: %+v", p)
		}
		n++
		counts(t, h, [8]int{3: n})
	}
	for _, size := range []int{0, 1, 1184, 1185, 1400} {
		b := datagram(t, six(2), six(5), 5, 7, pattern(size))
		if p := noPort(t, h, b, b); p.ID != 0 || p.V != 6 || len(p.Data) != 8+min(48+size, 1232) {
			t.Errorf("P22.1: NoPort: %+v", p)
		}
		n++
		counts(t, h, [8]int{3: n})
	}
}

// The message is about the datagram, not about the piece that came last: of version 6 it has no fragment header.
func TestNoSocketForParts(t *testing.T) {
	h := made(t, dualConfig(1))
	p, q := datagramPacket(t, four(2), four(1), 5, 7, pattern(3000)), datagramPacket(t, six(2), six(1), 5, 7, pattern(3000))
	p.TOS, p.Opts, q.TOS, q.Flow = 3, slices.Concat(alert, pad), 4, 5
	l, m := pieces(t, p, 1500, 77), pieces(t, q, 1500, 78)
	p.ID = 77
	quiet(t, h, l[2], l[0])
	noPort(t, h, l[1], laid(t, p))
	quiet(t, h, m[0], m[1])
	noPort(t, h, m[2], laid(t, q))
	atomic := datagramPacket(t, six(2), six(1), 5, 7, pattern(30))
	whole := laid(t, atomic)
	atomic.Frag, atomic.ID = true, 9
	noPort(t, h, laid(t, atomic), whole)
	counts(t, h, [8]int{3: 3})
}

// A message goes to a plain address that is not an own one, and that a link leads to; else no identification is taken for it.
func TestToWhomNoMessageGoes(t *testing.T) {
	c := dualConfig(1)
	c.Addrs = append(c.Addrs, four(5), six(5))
	c.Links = append(c.Links, 1279)
	c.Routes = append(c.Routes, api.Route{Net: six(77), Bits: 128, Link: 1}, api.Route{Net: api.Addr{V: 4, B: [16]byte{224}}, Bits: 3}, api.Route{Net: api.Addr{V: 4, B: [16]byte{127}}, Bits: 8})
	h := made(t, c)
	n := 0
	for _, src := range append(notPlain()[:8], four(1), four(5), six(1), six(5), far4, far6, six(77)) {
		dst := four(1)
		if src.V == 6 {
			dst = six(1)
		}
		quiet(t, h, datagram(t, src, dst, 5, 7, nil))
		n++
		counts(t, h, [8]int{3: n})
		p := datagramPacket(t, src, dst, 5, 7, make([]byte, 3000))
		quiet(t, h, pieces(t, p, 1500, uint32(n))[0])
	}
	if l := ticks(t, h, 60); len(l) != 0 || len(h.State().Keys) != 0 {
		t.Errorf("P22.1: %d messages about late fragments", len(l))
	}
	b := datagram(t, four(2), four(1), 5, 7, nil)
	if p := noPort(t, h, b, b); p.ID != 0 {
		t.Errorf("P22.1: ID %d", p.ID)
	}
}

// optioned is a datagram with as many options as there can be: a message about it has 96 bytes.
func optioned(t *testing.T, src, dst api.Addr, data []byte) api.Packet {
	t.Helper()
	p := datagramPacket(t, src, dst, 5, 7, data)
	p.Opts = bytes.Repeat(alert, 10)
	return p
}

func TestMessageIsCut(t *testing.T) {
	c := plainConfig(1)
	for mtu, want := range map[int][]int{68: {68, 48}, 92: {92, 24}, 95: {92, 24}, 96: {96}, 1500: {96}} {
		c.Links = []int{mtu}
		h := made(t, c)
		out := overLink(t, h.Packet(laid(t, optioned(t, four(2), four(1), nil))), 0)
		if !slices.Equal(lengths(out), want) {
			t.Errorf("P22.1: a message over a link of %d: %v; want %v", mtu, lengths(out), want)
		}
		other := made(t, plainConfig(2))
		quiet(t, other, out...)
		counts(t, other, [8]int{5: 1})
	}
}

func TestQueueIsFull(t *testing.T) {
	c := dualConfig(1)
	c.Queue, c.Bytes = 3, 10
	h := made(t, c)
	binds(t, h, any4, 7, 1, 7)
	binds(t, h, any6, 7, 2, 7)
	come := func(src, dst api.Addr, size int) { quiet(t, h, datagram(t, src, dst, 5, 7, pattern(size))) }
	for _, size := range []int{6, 5, 4, 1, 0, 0} { // 5 is too much, so is 1; the last is the fourth
		come(four(2), four(1), size)
	}
	counts(t, h, [8]int{4: 3})
	come(six(2), six(1), 11)
	counts(t, h, [8]int{4: 4})
	come(six(2), six(1), 10)
	counts(t, h, [8]int{4: 4})
	if s := h.State(); !slices.Equal(s.Queues, []int{3, 1}) {
		t.Errorf("P22.1: Queues = %v", s.Queues)
	}
	for _, size := range []int{6, 4, 0} {
		receives(t, h, 1, api.Got{Src: four(2), SPort: 5, Dst: four(1), DPort: 7, Data: pattern(size)})
	}
	recvFails(t, h, 1, api.ErrEmpty)
	come(four(2), four(1), 10)
	counts(t, h, [8]int{4: 4})
	c.Queue = 0
	h = made(t, c)
	binds(t, h, any4, 7, 1, 7)
	come(four(2), four(1), 0)
	counts(t, h, [8]int{4: 1})
	recvFails(t, h, 1, api.ErrEmpty)
}

// end is an address and a port.
type end struct {
	a    api.Addr
	port int
}

// P22.6: a datagram goes to the socket with just its address, else to that bound to any, to none else.
func TestWhoseItIs(t *testing.T) {
	ends := []end{{four(1), 7}, {any4, 7}, {four(5), 7}, {any6, 7}, {six(1), 7}, {four(1), 8}, {any4, 8}, {any6, 8}}
	for set := range 1 << len(ends) {
		c := dualConfig(1)
		c.Addrs = append(c.Addrs, four(5), six(5))
		h := made(t, c)
		sockets := map[int]int{} // by end
		for i, x := range ends {
			if set>>i&1 == 1 {
				sockets[i], _, _ = h.Bind(x.a, x.port)
			}
		}
		for _, dst := range []api.Addr{four(1), four(5), six(1), six(5)} {
			for _, port := range []int{7, 8, 9} {
				src := four(2)
				if dst.V == 6 {
					src = six(2)
				}
				want := 0
				for _, a := range []api.Addr{{V: dst.V}, dst} {
					if i := slices.Index(ends, end{a, port}); i >= 0 && sockets[i] != 0 {
						want = sockets[i]
					}
				}
				out := h.Packet(datagram(t, src, dst, 5, port, nil))
				if (len(out) == 1) != (want == 0) {
					t.Fatalf("P22.6: to %v, %d: %d packets", dst, port, len(out))
				}
				for i := range ends {
					if n := sockets[i]; n != 0 {
						_, e := h.Recv(n)
						if (e == api.OK) != (n == want) {
							t.Fatalf("P22.6: to %v, %d: Recv(%d) = %d; want %d", dst, port, n, e, want)
						}
					}
				}
			}
		}
	}
}

// Messages that are no errors, quote nothing that is read, or nothing that was sent.
func TestMessagesThatChangeNothing(t *testing.T) {
	h := made(t, dualConfig(1))
	binds(t, h, four(1), 1000, 1, 1000)
	binds(t, h, six(1), 1000, 2, 1000)
	b4, b6 := sends(t, h, 1, four(2), 7, make([]byte, 1472), api.Flags{})[0], sends(t, h, 2, six(2), 7, make([]byte, 1452), api.Flags{})[0]
	m4, _ := icmp.TooBig(b4, 576)
	m6, _ := icmp.TooBig(b6, 1280)
	n := 0
	comes := func(src, dst api.Addr, m api.Message) {
		t.Helper()
		quiet(t, h, about(t, src, dst, m))
		n++
		counts(t, h, [8]int{5: n})
		estimates(t, h, four(2), 1500)
		estimates(t, h, six(2), 1500)
	}
	for _, typ := range []int{0, 1, 2, 6, 8, 10, 13, 255} {
		m := m4
		m.Type = typ
		comes(four(9), four(1), m)
	}
	for _, typ := range []int{128, 129, 255} {
		m := m6
		m.Type = typ
		comes(six(9), six(1), m)
	}
	change := func(m api.Message, at int) api.Message {
		m.Body = bytes.Clone(m.Body)
		m.Body[at] ^= 0x10
		return m
	}
	for _, at := range []int{0, 5, 9, 10, 15, 19, 20, 23, 27} { // the head's sum and what it covers, the first 8 bytes of data
		comes(four(9), four(1), change(m4, at))
	}
	for _, at := range []int{0, 6, 23, 39, 40, 47} {
		comes(six(9), six(1), change(m6, at))
	}
	m4.Body = m4.Body[:27]
	m6.Body = m6.Body[:47]
	comes(four(9), four(1), m4)
	comes(six(9), six(1), m6)
	m4.Body, m6.Body = nil, nil
	comes(four(9), four(1), m4)
	comes(six(9), six(1), m6)
	// What stands in the other version's quote is not believed.
	m4, _ = icmp.TooBig(b4, 576)
	comes(six(9), six(1), api.Message{V: 6, Type: 2, Rest: 1280, Body: m4.Body})
	if s := h.State(); len(s.Paths) != 0 {
		t.Errorf("P22.5: Paths = %v", s.Paths)
	}
}

// Errors that match a send: TooBig alone lets the estimate fall.
func TestErrorsThatMatch(t *testing.T) {
	h := made(t, dualConfig(1))
	binds(t, h, four(1), 1000, 1, 1000)
	binds(t, h, six(1), 1000, 2, 1000)
	b4, b6 := sends(t, h, 1, four(2), 7, make([]byte, 1472), api.Flags{})[0], sends(t, h, 2, six(2), 7, make([]byte, 1452), api.Flags{})[0]
	m4, _ := icmp.TooBig(b4, 576)
	m6, _ := icmp.TooBig(b6, 1300)
	n, fell := 0, 0
	comes := func(src, dst api.Addr, m api.Message, typ, code int, rest uint32, falls int) {
		t.Helper()
		m.Type, m.Code, m.Rest = typ, code, rest
		quiet(t, h, about(t, src, dst, m))
		n++
		fell += falls
		counts(t, h, [8]int{5: n, 6: n, 7: fell})
	}
	for _, x := range [][2]int{{3, 0}, {3, 3}, {3, 5}, {3, 255}, {4, 4}, {5, 4}, {11, 4}, {12, 4}, {4, 0}, {11, 1}} {
		comes(four(9), four(1), m4, x[0], x[1], 576, 0)
	}
	for _, x := range [][2]int{{2, 1}, {2, 4}, {3, 4}, {3, 0}, {1, 0}, {0, 0}, {127, 0}, {1, 4}} {
		comes(six(9), six(1), m6, x[0], x[1], 1300, 0)
	}
	comes(four(9), four(1), m4, 3, 4, 1500, 0)
	comes(four(9), four(1), m4, 3, 4, 65536+576, 0) // the whole of Rest counts
	comes(four(9), four(1), m4, 3, 4, math.MaxUint32, 0)
	comes(six(9), six(1), m6, 2, 0, 1500, 0)
	comes(six(9), six(1), m6, 2, 0, 1279, 0)
	comes(six(9), six(1), m6, 2, 0, 0, 0)
	comes(six(9), six(1), m6, 2, 0, math.MaxUint32, 0)
	estimates(t, h, four(2), 1500)
	estimates(t, h, six(2), 1500)
	comes(four(9), four(1), m4, 3, 4, 0, 1) // below the packet's own length
	estimates(t, h, four(2), 1492)
	comes(four(9), four(1), m4, 3, 4, 0, 0)
	comes(four(9), four(1), m4, 3, 4, 576, 1)
	comes(six(9), six(1), m6, 2, 0, 1300, 1)
	if s := h.State(); !slices.Equal(s.Paths, []api.Addr{four(2), six(2)}) {
		t.Errorf("P22.1: Paths = %v", s.Paths)
	}
	comes(four(9), four(1), m4, 3, 4, 577, 0)
	comes(four(9), four(1), m4, 3, 4, 1, 1)
	estimates(t, h, four(2), 68)
	estimates(t, h, six(2), 1300)
	estimates(t, h, four(3), 1500)
	// From whomever it comes, to whichever own address: what it quotes counts.
	comes(six(2), six(1), m6, 2, 0, 1280, 1)
	estimates(t, h, six(2), 1280)
}

// An error that comes in pieces is one.
func TestMessageInParts(t *testing.T) {
	h := made(t, plainConfig(1))
	binds(t, h, four(1), 1000, 1, 1000)
	b := sends(t, h, 1, four(2), 7, make([]byte, 1000), api.Flags{Opts: bytes.Repeat(alert, 10)})[0]
	m, _ := icmp.TooBig(b, 68)
	p := api.Packet{V: 4, Src: four(9), Dst: four(1), Proto: 1, TTL: 3}
	p.Data, _ = icmp.Build(p.Src, p.Dst, m)
	l := pieces(t, p, 68, 5)
	quiet(t, h, l[1])
	counts(t, h, [8]int{})
	quiet(t, h, l[0])
	counts(t, h, [8]int{5: 1, 6: 1, 7: 1})
	estimates(t, h, four(2), 68)
}

func TestTickRefuses(t *testing.T) {
	h := made(t, plainConfig(1))
	refuses := func(l ...int64) {
		t.Helper()
		for _, now := range l {
			if out, e := h.Tick(now); len(out) != 0 || e != api.ErrArg {
				t.Errorf("P22.1: Tick(%d) = %d packets, %d", now, len(out), e)
			}
		}
	}
	refuses(-1, math.MinInt64, 1<<40+1, math.MaxInt64)
	for _, now := range []int64{0, 0, 1, 1, 59, 1 << 39, 1 << 40, 1 << 40} {
		ticks(t, h, now)
		refuses(now-1, -1, 1<<40+1)
	}
}

// Which first fragments are told about, and in which order.
func TestLate(t *testing.T) {
	c := dualConfig(1)
	c.Quota.Entries = 64
	h := made(t, c)
	part := func(src, dst api.Addr, proto int, first byte, id uint32) api.Packet {
		p := api.Packet{V: src.V, Src: src, Dst: dst, Proto: proto, TTL: 3, ID: id, More: true, Frag: src.V == 6, Data: pattern(16)}
		p.Data[0] = first
		return p
	}
	var told []api.Packet
	put := func(p api.Packet, is bool) {
		quiet(t, h, laid(t, p))
		if is {
			told = append(told, p)
		}
	}
	put(part(four(2), four(1), 17, 3, 1), true)
	for typ := range 256 {
		is := typ != 3 && typ != 4 && typ != 5 && typ != 11 && typ != 12
		if typ < 14 || typ > 250 || typ == 128 {
			put(part(four(3), four(1), 1, byte(typ), uint32(typ)), is)
		}
	}
	put(part(six(2), six(1), 17, 1, 1), true)
	ticks(t, h, 1)
	for _, typ := range []int{0, 1, 2, 3, 4, 126, 127, 128, 129, 255} {
		put(part(six(3), six(1), 58, byte(typ), uint32(typ)), typ > 127)
	}
	put(part(four(4), four(1), 58, 3, 1), true) // 58 is no ICMP of version 4
	put(part(six(4), six(1), 1, 3, 1), true)
	poisoned := part(four(5), four(1), 17, 1, 1)
	put(poisoned, false)
	poisoned.Data[3]++
	put(poisoned, false)
	later := part(four(6), four(1), 17, 1, 1)
	later.Off = 8
	put(later, false)
	// All that came at 0 is late ahead of all that came at 1.
	out := ticks(t, h, 61)
	if len(out) != len(told) || len(out) < 20 {
		t.Fatalf("P22.1: %d messages; want %d", len(out), len(told))
	}
	id := uint32(0)
	for i, o := range out {
		p, m := message(t, o.Bytes)
		want, _ := icmp.LateParts(laid(t, told[i]))
		if p.Src != told[i].Dst || p.Dst != told[i].Src || p.TTL != 64 || o.Link != 0 || m.Type != want.Type || m.Code != want.Code || m.Rest != 0 || !bytes.Equal(m.Body, want.Body) {
			t.Errorf("P22.1: message %d: %+v, %+v; want %+v", i, p, m, want)
		}
		if p.V == 4 {
			if p.ID != id {
				t.Errorf("P22.1: message %d has the ID %d; want %d", i, p.ID, id)
			}
			id++
		}
	}
	if s := h.State(); len(s.Keys) != 0 || s.Bytes != 0 || s.Counts != [8]int{} {
		t.Errorf("P22.1: State = %+v", s)
	}
	if l := ticks(t, h, 61); len(l) != 0 {
		t.Errorf("P22.1: Tick(61) again: %d messages", len(l))
	}
}

// Each kind of first fragment by itself: about an ICMP error nothing is told.
func TestLateAlone(t *testing.T) {
	for _, v := range []int{4, 6} {
		src, dst := four(2), four(1)
		if v == 6 {
			src, dst = six(2), six(1)
		}
		for _, proto := range []int{0, 1, 17, 58, 255} {
			for first := range 256 {
				h := made(t, dualConfig(1))
				data := pattern(8)
				data[0] = byte(first)
				quiet(t, h, laid(t, api.Packet{V: v, Src: src, Dst: dst, Proto: proto, ID: 1, More: true, Frag: v == 6, Data: data}))
				want := 1
				if v == 4 && proto == 1 && slices.Contains([]int{3, 4, 5, 11, 12}, first) || v == 6 && proto == 58 && first < 128 {
					want = 0
				}
				if l := ticks(t, h, 60); len(l) != want {
					t.Errorf("P22.1: version %d, protocol %d, first byte %d: %d messages; want %d", v, proto, first, len(l), want)
				}
			}
		}
	}
}

// The estimates rise ahead of the messages: one of 96 bytes is cut for 68 no more.
func TestTickRaisesFirst(t *testing.T) {
	c := plainConfig(1)
	c.Paths.Age = 60
	for at := range int64(2) {
		h := made(t, c)
		binds(t, h, four(1), 1000, 1, 1000)
		m, _ := icmp.TooBig(sends(t, h, 1, four(2), 7, make([]byte, 1472), api.Flags{})[0], 68)
		first := pieces(t, optioned(t, four(2), four(1), make([]byte, 3000)), 1500, 5)[0]
		quiet(t, h, first)
		ticks(t, h, at) // heard at 1 it is not old enough at 60
		quiet(t, h, about(t, four(9), four(1), m))
		estimates(t, h, four(2), 68)
		out := overLink(t, ticks(t, h, 60), 0)
		want, est := []int{96}, 296
		if at == 1 {
			want, est = []int{68, 48}, 68
		}
		estimates(t, h, four(2), est)
		if !slices.Equal(lengths(out), want) {
			t.Errorf("P22.1: heard at %d: the message has %v bytes; want %v", at, lengths(out), want)
		}
	}
}

// A send is remembered as it was ahead of cutting, by its first fragment; a message is not remembered.
func TestWhatIsRemembered(t *testing.T) {
	h := made(t, dualConfig(1))
	binds(t, h, four(1), 1000, 1, 1000)
	binds(t, h, six(1), 1000, 2, 1000)
	cut4, cut6 := sends(t, h, 1, four(2), 7, make([]byte, 3000), api.Flags{}), sends(t, h, 2, six(2), 7, make([]byte, 3000), api.Flags{})
	answer := h.Packet(datagram(t, four(3), four(1), 5, 7, nil))[0].Bytes
	answer6 := h.Packet(datagram(t, six(3), six(1), 5, 7, nil))[0].Bytes
	n := 0
	for _, b := range [][]byte{cut4[1], cut4[2], cut6[1], cut6[2], answer, answer6} {
		m, _ := icmp.TooBig(b, 1300)
		src, dst := four(9), four(1)
		if m.V == 6 {
			src, dst = six(9), six(1)
		}
		quiet(t, h, about(t, src, dst, m))
		n++
		counts(t, h, [8]int{3: 2, 5: n})
	}
	m4, _ := icmp.TooBig(cut4[0], 0)
	m6, _ := icmp.TooBig(cut6[0], 1300)
	quiet(t, h, about(t, four(9), four(1), m4), about(t, six(9), six(1), m6))
	// The length that counts with an MTU of 0 is that of the whole, 3028: the plateau below is no less than the first hop's.
	counts(t, h, [8]int{3: 2, 5: n + 2, 6: 2, 7: 1})
	estimates(t, h, four(2), 1500)
	estimates(t, h, six(2), 1300)
}
