package hop

import (
	"bytes"
	"errors"
	"math"
	"slices"
	"testing"

	"mosaic/api"
	"mosaic/icmp"
	"mosaic/ip4"
	"mosaic/ip6"
	"mosaic/recut"
)

// four is 10.0.c.d, six fd00::c:d.
func four(c, d byte) api.Addr { return api.Addr{V: 4, B: [16]byte{10, 0, c, d}} }

func six(c, d byte) api.Addr { return api.Addr{V: 6, B: [16]byte{0: 0xfd, 13: c, 15: d}} }

// notPlain are addresses of other kinds.
func notPlain() []api.Addr {
	return []api.Addr{
		{V: 4}, {V: 6}, {V: 4, B: [16]byte{127, 0, 0, 1}}, {V: 4, B: [16]byte{127, 255, 255, 255}}, {V: 6, B: [16]byte{15: 1}},
		{V: 4, B: [16]byte{224, 0, 0, 1}}, {V: 4, B: [16]byte{239, 255, 255, 255}}, {V: 6, B: [16]byte{255, 2, 15: 1}},
		{V: 4, B: [16]byte{255, 255, 255, 255}},
	}
}

// config is the chapter's router; its addresses are handed in falling.
func config() api.HopConfig {
	return api.HopConfig{
		Addrs:  []api.Addr{four(1, 9), four(0, 9)},
		Links:  []int{1500, 576},
		Routes: []api.Route{{Net: four(0, 0), Bits: 24, Link: 0}, {Net: four(1, 0), Bits: 24, Link: 1}},
	}
}

// dualConfig has version 6 too: fd00::0:0/112 is behind link 0, fd00::1:0/112 behind link 1, which is too small for it, fd00::2:0/112 behind link 2.
func dualConfig() api.HopConfig {
	c := config()
	c.Addrs = append(c.Addrs, six(1, 9), six(0, 9))
	c.Links = append(c.Links, 1400)
	for i := range 3 {
		c.Routes = append(c.Routes, api.Route{Net: six(byte(i), 0), Bits: 112, Link: i})
	}
	return c
}

func made(t *testing.T, c api.HopConfig) *Hop {
	t.Helper()
	h, e := New(c)
	if h == nil || e != api.OK {
		t.Fatalf("P23.1: New(%+v) = %d", c, e)
	}
	return h
}

func refused(t *testing.T, what string, c api.HopConfig) {
	t.Helper()
	if h, e := New(c); h != nil || e != api.ErrArg {
		t.Errorf("P23.1: New with %s = %v, %d; want %d", what, h, e, api.ErrArg)
	}
}

// pattern is n bytes of which neighbours differ; the first is 8, a Type of no ICMP error of version 4.
func pattern(n int) []byte {
	b := make([]byte, n)
	for i := range b {
		b[i] = byte(8 + 7*i + i/256)
	}
	return b
}

// from4 is the chapter's p with n bytes of data.
func from4(n int) api.Packet {
	return api.Packet{V: 4, Src: four(0, 1), Dst: four(1, 2), Proto: 17, TTL: 64, ID: 7, Data: pattern(n)}
}

// from6 goes over link 2 of dualConfig.
func from6(n int) api.Packet {
	return api.Packet{V: 6, Src: six(0, 1), Dst: six(2, 2), Proto: 17, TTL: 64, Data: pattern(n)}
}

func lay(t *testing.T, p api.Packet) []byte {
	t.Helper()
	b, e := ip4.Build(p)
	if p.V == 6 {
		b, e = ip6.Build(p)
	}
	if e != api.OK {
		t.Fatalf("%+v is not right", p)
	}
	return b
}

func taken(t *testing.T, b []byte) api.Packet {
	t.Helper()
	p, e := ip4.Parse(b)
	if e != api.OK {
		p, e = ip6.Parse(b)
	}
	if e != api.OK {
		t.Fatalf("P23.3: %x is no packet", b)
	}
	return p
}

func samePacket(p, q api.Packet) bool {
	return p.V == q.V && p.TOS == q.TOS && p.Flow == q.Flow && p.Src == q.Src && p.Dst == q.Dst &&
		p.Proto == q.Proto && p.TTL == q.TTL && p.ID == q.ID && p.DF == q.DF && p.More == q.More && p.Frag == q.Frag &&
		p.Off == q.Off && bytes.Equal(p.Opts, q.Opts) && bytes.Equal(p.Data, q.Data)
}

// goes puts a packet in: these go out, over that link.
func goes(t *testing.T, h *Hop, p api.Packet, link int, want ...api.Packet) {
	t.Helper()
	l := h.Packet(lay(t, p))
	if len(l) != len(want) {
		t.Fatalf("P23.1: %+v: %d packets go out; want %d", p, len(l), len(want))
	}
	for i, q := range want {
		if l[i].Link != link || !bytes.Equal(l[i].Bytes, lay(t, q)) {
			t.Errorf("P23.1: %+v: packet %d goes over %d: %+v; want %d: %+v", p, i, l[i].Link, taken(t, l[i].Bytes), link, q)
		}
	}
}

// on is a packet as it goes on: its TTL is one less.
func on(p api.Packet) api.Packet {
	p.TTL--
	return p
}

// part is what goes on of a packet's data from one place to another.
func part(p api.Packet, from, to int, more bool) api.Packet {
	p = on(p)
	p.Off, p.Data, p.More = p.Off+from, p.Data[from:to], more
	return p
}

// told is the packet of a message from src about p.
func told(t *testing.T, p api.Packet, src api.Addr, id uint32, about func([]byte) (api.Message, api.Errno)) api.Packet {
	t.Helper()
	m, e := about(lay(t, p))
	if e != api.OK {
		t.Fatal(e)
	}
	q := api.Packet{V: p.V, Src: src, Dst: p.Src, Proto: 1, TTL: 64, ID: id}
	if p.V == 6 {
		q.Proto = 58
	}
	if q.Data, e = icmp.Build(src, p.Src, m); e != api.OK {
		t.Fatal(e)
	}
	return q
}

func big(mtu int) func([]byte) (api.Message, api.Errno) {
	return func(b []byte) (api.Message, api.Errno) { return icmp.TooBig(b, mtu) }
}

// The chapter's examples.
func TestExamples(t *testing.T) {
	h := made(t, config())
	p := from4(0)
	p.Data = []byte("abc")
	goes(t, h, p, 1, on(p))
	q := p
	q.TTL = 1
	goes(t, h, q, 0, told(t, q, four(0, 9), 0, icmp.TimeUp))
	q = p
	q.Dst = four(2, 1)
	goes(t, h, q, 0, told(t, q, four(0, 9), 1, icmp.NoRoute))
	for _, dst := range []api.Addr{four(0, 9), {V: 4, B: [16]byte{224, 0, 0, 1}}} {
		q.Dst = dst
		goes(t, h, q, 0)
	}
	for i := range 20 {
		b := lay(t, p)
		b[i] ^= 0x20
		if l := h.Packet(b); len(l) != 0 {
			t.Errorf("P23.1: with byte %d of the head changed %d packets go out", i, len(l))
		}
	}

	h = made(t, config())
	p = from4(1000)
	goes(t, h, p, 1, part(p, 0, 552, true), part(p, 552, 1000, false))
	p.DF = true
	want := told(t, p, four(0, 9), 0, big(576))
	goes(t, h, p, 0, want)
	if m, e := icmp.Parse(want.Src, want.Dst, want.Data); e != api.OK || len(m.Body) != 28 || m.Rest != 576 {
		t.Errorf("P23.1: %+v, %d", m, e)
	}

	h = made(t, config())
	p = from4(8)
	p.TTL, p.Off = 1, 8
	goes(t, h, p, 0)
	p = from4(8)
	p.TTL, p.Proto, p.Data[0] = 1, 1, 3
	goes(t, h, p, 0)
	p.Data[0] = 8
	goes(t, h, p, 0, told(t, p, four(0, 9), 0, icmp.TimeUp))
	p = from4(3)
	p.TTL = 1
	for _, src := range []api.Addr{{V: 4}, four(5, 1)} {
		p.Src = src
		goes(t, h, p, 0)
	}
}

// Every TTL, in both versions.
func TestTTL(t *testing.T) {
	h := made(t, dualConfig())
	id := uint32(0)
	for ttl := range 256 {
		p, q := from4(3), from6(3)
		p.TTL, q.TTL = ttl, ttl
		if ttl < 2 {
			goes(t, h, p, 0, told(t, p, four(0, 9), id, icmp.TimeUp))
			goes(t, h, q, 0, told(t, q, six(0, 9), 0, icmp.TimeUp))
			id++
			continue
		}
		goes(t, h, p, 1, on(p))
		goes(t, h, q, 2, on(q))
	}
}

// All fields but the TTL go on as they came.
func TestFieldsGoOn(t *testing.T) {
	h := made(t, dualConfig())
	p := from4(16)
	p.TOS, p.Proto, p.TTL, p.ID, p.DF, p.Opts = 255, 255, 255, 65535, true, []byte{7, 4, 1, 2, 0x94, 4, 0, 0}
	goes(t, h, p, 1, on(p))
	p.More, p.Off = true, 800
	goes(t, h, p, 1, on(p))
	q := from6(16)
	q.TOS, q.Flow, q.Proto, q.TTL = 255, 1<<20-1, 0, 255
	goes(t, h, q, 2, on(q))
	q.Frag, q.ID = true, 1<<32-1
	goes(t, h, q, 2, on(q))
	q.More, q.Off = true, 8
	goes(t, h, q, 2, on(q))
	for _, n := range []int{0, 1} {
		goes(t, h, from4(n), 1, on(from4(n)))
		goes(t, h, from6(n), 2, on(from6(n)))
	}
}

// Errors, fragments and packets from wherever are sent on as any others: conditions of a message are none of going on.
func TestSentOnWhateverItIs(t *testing.T) {
	h := made(t, dualConfig())
	for _, src := range append(notPlain(), four(0, 9), six(0, 9), four(7, 7), six(7, 7), four(1, 2), six(2, 2)) {
		p, link := from4(3), 1
		if src.V == 6 {
			p, link = from6(3), 2
		}
		p.Src = src
		goes(t, h, p, link, on(p))
	}
	p := from4(8)
	p.Proto, p.Data[0] = 1, 3
	goes(t, h, p, 1, on(p))
	p.Off = 16
	goes(t, h, p, 1, on(p))
}

// The link's MTU to the byte, with options and in fragments.
func TestCut(t *testing.T) {
	h := made(t, dualConfig())
	for _, n := range []int{555, 556} {
		p := from4(n)
		goes(t, h, p, 1, on(p))
		p.DF = true
		goes(t, h, p, 1, on(p))
	}
	p := from4(557)
	goes(t, h, p, 1, part(p, 0, 552, true), part(p, 552, 557, false))
	p.Off, p.Data = 8000, pattern(1200)
	goes(t, h, p, 1, part(p, 0, 552, true), part(p, 552, 1104, true), part(p, 1104, 1200, false))
	p.More = true
	goes(t, h, p, 1, part(p, 0, 552, true), part(p, 552, 1104, true), part(p, 1104, 1200, true))
	p = from4(1100)
	p.Opts = []byte{7, 4, 0xaa, 0xbb, 0x82, 4, 0xcc, 0xdd}
	a, b := part(p, 0, 544, true), part(p, 544, 1096, true)
	c := part(p, 1096, 1100, false)
	b.Opts, c.Opts = p.Opts[4:], p.Opts[4:]
	goes(t, h, p, 1, a, b, c)
	for _, n := range []int{1359, 1360} {
		goes(t, h, from6(n), 2, on(from6(n)))
	}
	goes(t, h, from6(1361), 0, told(t, from6(1361), six(0, 9), 0, big(1400)))
	q := from6(1352)
	q.Frag, q.More = true, true
	goes(t, h, q, 2, on(q))
	q.Data = pattern(1360)
	goes(t, h, q, 0, told(t, q, six(0, 9), 0, big(1400)))
}

// A packet of the greatest length, over the least link and over the greatest.
func TestLongest(t *testing.T) {
	c := dualConfig()
	c.Links[1], c.Links[2] = 68, 65535
	h := made(t, c)
	p := from4(65515)
	var want []api.Packet
	for at := 0; at < 65515; at += 48 {
		want = append(want, part(p, at, min(at+48, 65515), at+48 < 65515))
	}
	goes(t, h, p, 1, want...)
	p.Dst = four(0, 2)
	c.Links[0] = 65535
	h = made(t, c)
	goes(t, h, p, 0, on(p))
	q := from6(65495)
	goes(t, h, q, 2, on(q))
	q.Data = pattern(65496)
	goes(t, h, q, 0, told(t, q, six(0, 9), 0, big(65535)))
	q.Data = pattern(65535)
	goes(t, h, q, 0, told(t, q, six(0, 9), 0, big(65535)))
}

// Of several that hold the first counts: silence, TimeUp, NoRoute, TooBig.
func TestOrderOfRules(t *testing.T) {
	h := made(t, dualConfig())
	p := from4(1000)
	p.DF, p.TTL = true, 1
	goes(t, h, p, 0, told(t, p, four(0, 9), 0, icmp.TimeUp))
	p.Dst = four(7, 7)
	goes(t, h, p, 0, told(t, p, four(0, 9), 1, icmp.TimeUp))
	p.TTL = 2
	goes(t, h, p, 0, told(t, p, four(0, 9), 2, icmp.NoRoute))
	for _, dst := range append(notPlain(), four(0, 9), four(1, 9), six(0, 9), six(1, 9)) {
		for _, ttl := range []int{0, 1, 2, 64} {
			q := from4(3)
			if dst.V == 6 {
				q = from6(3)
			}
			q.Dst, q.TTL = dst, ttl
			goes(t, h, q, 0)
		}
	}
	p = from4(3)
	p.TTL = 1
	goes(t, h, p, 0, told(t, p, four(0, 9), 3, icmp.TimeUp))
}

// A route to all leads to no address that is not plain, nor to an own one.
func TestRouteToAll(t *testing.T) {
	h := made(t, api.HopConfig{
		Addrs:  []api.Addr{four(0, 9), six(0, 9)},
		Links:  []int{1500},
		Routes: []api.Route{{Net: api.Addr{V: 4}}, {Net: api.Addr{V: 6}}},
	})
	for _, dst := range append(notPlain(), four(0, 9), six(0, 9)) {
		p := from4(3)
		if dst.V == 6 {
			p = from6(3)
		}
		p.Dst = dst
		goes(t, h, p, 0)
	}
	for _, dst := range []api.Addr{four(9, 9), {V: 4, B: [16]byte{1}}, {V: 4, B: [16]byte{223, 255, 255, 255}}, {V: 4, B: [16]byte{240}}, {V: 4, B: [16]byte{255, 255, 255, 254}}, {V: 6, B: [16]byte{15: 2}}, {V: 6, B: [16]byte{254, 255}}} {
		p := from4(3)
		if dst.V == 6 {
			p = from6(3)
		}
		p.Dst = dst
		goes(t, h, p, 0, on(p))
	}
}

// The longest prefix leads; of version 6 a link below 1280 is none, and no shorter prefix is asked then.
func TestLinks(t *testing.T) {
	h := made(t, api.HopConfig{
		Addrs: []api.Addr{four(0, 9), six(0, 9)},
		Links: []int{1500, 1279, 1280, 68},
		Routes: []api.Route{
			{Net: four(1, 2), Bits: 32, Link: 3}, {Net: api.Addr{V: 4, B: [16]byte{10}}, Bits: 8, Link: 0}, {Net: four(1, 0), Bits: 24, Link: 1},
			{Net: six(2, 2), Bits: 128, Link: 2}, {Net: api.Addr{V: 6}, Bits: 0, Link: 0}, {Net: six(2, 0), Bits: 112, Link: 1},
		},
	})
	p := from4(3)
	goes(t, h, p, 3, on(p))
	p.Dst = four(1, 3)
	goes(t, h, p, 1, on(p))
	p.Dst = four(2, 2)
	goes(t, h, p, 0, on(p))
	p.Dst = api.Addr{V: 4, B: [16]byte{11}}
	goes(t, h, p, 0, told(t, p, four(0, 9), 0, icmp.NoRoute))
	q := from6(3)
	goes(t, h, q, 2, on(q))
	q.Dst = six(3, 3)
	goes(t, h, q, 0, on(q))
	q.Dst = six(2, 3)
	goes(t, h, q, 0, told(t, q, six(0, 9), 0, icmp.NoRoute))
	q.Src = six(2, 4) // no link leads back
	goes(t, h, q, 0)
}

// What comes in may go out over the link over which it came.
func TestBackWhereItCameFrom(t *testing.T) {
	h := made(t, dualConfig())
	p := from4(3)
	p.Dst = four(0, 2)
	goes(t, h, p, 0, on(p))
	p.Dst = p.Src
	goes(t, h, p, 0, on(p))
	p.TTL = 1
	goes(t, h, p, 0, told(t, p, four(0, 9), 0, icmp.TimeUp))
}

// Bytes that are no packet.
func TestNoPacket(t *testing.T) {
	h := made(t, dualConfig())
	p, q := lay(t, from4(30)), lay(t, from6(30))
	for n := range len(p) {
		if l := h.Packet(p[:n]); len(l) != 0 {
			t.Fatalf("P23.1: of the first %d bytes %d packets go out", n, len(l))
		}
	}
	for n := range len(q) {
		if l := h.Packet(q[:n]); len(l) != 0 {
			t.Fatalf("P23.1: of the first %d bytes of version 6 %d packets go out", n, len(l))
		}
	}
	for what, b := range map[string][]byte{
		"none": nil, "empty": {}, "noughts": make([]byte, 100), "one more": append(lay(t, from4(30)), 0), "one more of version 6": append(lay(t, from6(30)), 0),
		"too many": make([]byte, 70000),
	} {
		if l := h.Packet(b); len(l) != 0 {
			t.Errorf("P23.1: %s: %d packets go out", what, len(l))
		}
	}
	r := from4(3)
	r.TTL = 1
	goes(t, h, r, 0, told(t, r, four(0, 9), 0, icmp.TimeUp)) // no number was taken
}

// What a packet meets is an error that wraps an Errno.
func TestReasons(t *testing.T) {
	h := made(t, dualConfig())
	own, late, lost, long := from4(3), from4(3), from4(3), from4(1000)
	own.Dst, late.TTL, lost.Dst, long.DF = four(0, 9), 1, four(7, 7), true
	for _, x := range []struct {
		p    api.Packet
		want reason
	}{
		{own, reason{api.ErrForm, silence, 0}}, {late, reason{api.ErrForm, timeUp, 0}},
		{lost, reason{api.ErrRoute, noRoute, 0}}, {long, reason{api.ErrBig, tooBig, 576}},
	} {
		l, err := h.sendOn(x.p)
		var why reason
		if len(l) != 0 || !errors.As(err, &why) || why != x.want || !errors.Is(err, x.want.cause) {
			t.Errorf("%+v: %v; want %+v", x.p, err, x.want)
		}
		var e api.Errno
		if !errors.As(err, &e) || e != x.want.cause || err.Error() == "" {
			t.Errorf("%+v: %v wraps %d; want %d", x.p, err, e, x.want.cause)
		}
	}
	if l, err := h.sendOn(from4(3)); len(l) != 1 || err != nil {
		t.Errorf("%d packets, %v", len(l), err)
	}
}

// New takes as much as there may be, and nothing of it above that.
func TestNew(t *testing.T) {
	h := made(t, api.HopConfig{})
	goes(t, h, from4(3), 0)
	goes(t, h, from6(3), 0)
	for _, a := range append(notPlain(), api.Addr{}, api.Addr{V: 5, B: four(0, 1).B}, api.Addr{V: -4, B: four(0, 1).B}, api.Addr{V: math.MaxInt}, api.Addr{V: 4, B: [16]byte{10, 0, 0, 2, 1}}, api.Addr{V: 4, B: [16]byte{10, 0, 0, 2, 15: 1}}) {
		refused(t, "an address that is not plain", api.HopConfig{Addrs: []api.Addr{a}})
		refused(t, "one behind others", api.HopConfig{Addrs: []api.Addr{four(0, 1), six(0, 1), a}})
	}
	var full api.HopConfig
	for i := range 8 {
		full.Addrs = append(full.Addrs, four(byte(i), 1))
	}
	for i := range 16 {
		full.Links = append(full.Links, 68+i*(65535-68)/15)
	}
	for i := range 32 {
		full.Routes = append(full.Routes, api.Route{Net: four(byte(i), 0), Bits: 24, Link: i / 2})
	}
	made(t, full)
	for i := range 8 {
		for j := range i {
			c := full
			c.Addrs = slices.Clone(full.Addrs)
			c.Addrs[i] = c.Addrs[j]
			refused(t, "an address twice", c)
		}
	}
	c := full
	c.Addrs = append(slices.Clone(full.Addrs), six(0, 1))
	refused(t, "9 addresses", c)
	c = full
	c.Links = append(slices.Clone(full.Links), 1500)
	refused(t, "17 links", c)
	c = full
	c.Routes = append(slices.Clone(full.Routes), api.Route{Net: four(99, 0), Bits: 24})
	refused(t, "33 routes", c)
}

// The edges of MTUs and of routes.
func TestNewLinksAndRoutes(t *testing.T) {
	for _, n := range []int{math.MinInt, -1500, -1, 0, 1, 67, 65536, 1 << 32, math.MaxInt} {
		for at := range 3 {
			c := dualConfig()
			c.Links[at] = n
			refused(t, "a wrong MTU", c)
		}
		refused(t, "a wrong MTU of a link to which no route leads", api.HopConfig{Links: []int{n}})
	}
	for _, n := range []int{68, 69, 1279, 1280, 65534, 65535} {
		for at := range 3 {
			c := dualConfig()
			c.Links[at] = n
			made(t, c)
		}
	}
	for at := range 5 {
		for _, r := range []api.Route{
			{Net: four(9, 0), Bits: 24, Link: 3}, {Net: four(9, 0), Bits: 24, Link: -1}, {Net: four(9, 0), Bits: 24, Link: 15}, {Net: four(9, 0), Bits: 24, Link: 16}, {Net: four(9, 0), Bits: 24, Link: math.MinInt}, {Net: four(9, 0), Bits: 24, Link: math.MaxInt},
			{Net: four(9, 1), Bits: 24}, {Net: four(9, 0), Bits: 33}, {Net: four(9, 0), Bits: -1}, {Net: six(9, 0), Bits: 129}, {Net: six(9, 1), Bits: 112}, {Bits: 0}, {Net: api.Addr{V: 5}},
		} {
			c := dualConfig()
			c.Routes[at] = r
			refused(t, "a wrong route", c)
		}
		for other := range at {
			c := dualConfig()
			c.Routes[at].Net, c.Routes[at].Bits = c.Routes[other].Net, c.Routes[other].Bits
			refused(t, "a net twice", c)
		}
	}
	refused(t, "a route without a link", api.HopConfig{Routes: []api.Route{{Net: api.Addr{V: 4}}}})
	made(t, api.HopConfig{Links: []int{68}, Routes: []api.Route{{Net: api.Addr{V: 4}}}})
}

// Every MTU and length in a range, with options of several lengths: what goes out is what recut makes of it.
func TestEveryLength(t *testing.T) {
	for mtu := 68; mtu <= 110; mtu++ {
		c := config()
		c.Links[1] = mtu
		h := made(t, c)
		for _, options := range [][]byte{nil, {0x94, 4, 0, 0}, {7, 4, 1, 2}, bytes.Repeat([]byte{1}, 40)} {
			for n := range 240 {
				p := from4(n)
				p.Opts = options
				want, e := recut.Recut(on(p), mtu)
				if e != api.OK {
					t.Fatal(e)
				}
				goes(t, h, p, 1, want...)
			}
		}
		if t.Failed() {
			t.Fatalf("P23.1: an MTU of %d", mtu)
		}
	}
}
