package host

import (
	"bytes"
	"math"
	"slices"
	"testing"

	"mosaic/api"
	"mosaic/icmp"
	"mosaic/ip4"
	"mosaic/ip6"
)

// four is 10.0.0.d, six 2001:db8::d.
func four(d byte) api.Addr { return api.Addr{V: 4, B: [16]byte{10, 0, 0, d}} }

func six(d byte) api.Addr { return api.Addr{V: 6, B: [16]byte{0x20, 1, 0x0d, 0xb8, 15: d}} }

var (
	any4 = api.Addr{V: 4}
	any6 = api.Addr{V: 6}
	far4 = api.Addr{V: 4, B: [16]byte{11, 0, 0, 1}} // no route of plainConfig leads there
	far6 = api.Addr{V: 6, B: [16]byte{0xfe, 0x80, 15: 1}}
)

// notPlain are addresses of other kinds, and some that are none.
func notPlain() []api.Addr {
	return []api.Addr{
		any4, any6, {V: 4, B: [16]byte{127, 0, 0, 1}}, {V: 6, B: [16]byte{15: 1}},
		{V: 4, B: [16]byte{224, 0, 0, 1}}, {V: 4, B: [16]byte{239, 255, 255, 255}}, {V: 6, B: [16]byte{255, 2, 15: 1}},
		{V: 4, B: [16]byte{255, 255, 255, 255}},
		{}, {V: 5, B: four(2).B}, {V: -4, B: four(2).B}, {V: 4, B: [16]byte{10, 0, 0, 2, 1}}, {V: 4, B: [16]byte{10, 0, 0, 2, 15: 1}},
	}
}

// plainConfig is the chapter's host with the address 10.0.0.d.
func plainConfig(d byte) api.HostConfig {
	return api.HostConfig{
		Addrs:  []api.Addr{four(d)},
		Links:  []int{1500},
		Routes: []api.Route{{Net: api.Addr{V: 4, B: [16]byte{10}}, Bits: 8}},
		Quota:  api.Quota{Entries: 16, Bytes: 131072, Holes: 8192, Timeout: 60},
		Paths:  api.Paths{Entries: 16, Age: 600},
		Window: 16, Queue: 16, Bytes: 131072, Sockets: 16,
	}
}

// dualConfig has 2001:db8::d too, and a route to 2001::/16.
func dualConfig(d byte) api.HostConfig {
	c := plainConfig(d)
	c.Addrs = append(c.Addrs, six(d))
	c.Routes = append(c.Routes, api.Route{Net: api.Addr{V: 6, B: [16]byte{0x20, 1}}, Bits: 16})
	return c
}

func made(t *testing.T, c api.HostConfig) *Host {
	t.Helper()
	h, e := New(c)
	if h == nil || e != api.OK {
		t.Fatalf("P22.1: New(%+v) = %d", c, e)
	}
	return h
}

func binds(t *testing.T, h *Host, a api.Addr, port, socket, got int) {
	t.Helper()
	if n, p, e := h.Bind(a, port); n != socket || p != got || e != api.OK {
		t.Fatalf("P22.1: Bind(%v, %d) = %d, %d, %d; want %d, %d", a, port, n, p, e, socket, got)
	}
}

func bindFails(t *testing.T, h *Host, a api.Addr, port int, want api.Errno) {
	t.Helper()
	if n, p, e := h.Bind(a, port); n != 0 || p != 0 || e != want {
		t.Errorf("P22.1: Bind(%v, %d) = %d, %d, %d; want %d", a, port, n, p, e, want)
	}
}

// sends answers the bytes, all of which go over the link 0.
func sends(t *testing.T, h *Host, socket int, dst api.Addr, port int, data []byte, f api.Flags) [][]byte {
	t.Helper()
	l, e := h.Send(socket, dst, port, data, f)
	if e != api.OK || len(l) == 0 {
		t.Fatalf("P22.1: Send(%d, %v, %d, %d bytes, %+v) = %d, %d", socket, dst, port, len(data), f, len(l), e)
	}
	return overLink(t, l, 0)
}

func overLink(t *testing.T, l []api.Out, link int) [][]byte {
	t.Helper()
	var out [][]byte
	for _, o := range l {
		if o.Link != link {
			t.Fatalf("P22.1: over the link %d; want %d", o.Link, link)
		}
		out = append(out, o.Bytes)
	}
	return out
}

func sendFails(t *testing.T, h *Host, socket int, dst api.Addr, port int, data []byte, f api.Flags, want api.Errno) {
	t.Helper()
	if l, e := h.Send(socket, dst, port, data, f); len(l) != 0 || e != want {
		t.Errorf("P22.1: Send(%d, %v, %d, %d bytes, %+v) = %d packets, %d; want %d", socket, dst, port, len(data), f, len(l), e, want)
	}
}

// quiet puts packets in, to which nothing is answered.
func quiet(t *testing.T, h *Host, l ...[]byte) {
	t.Helper()
	for _, b := range l {
		if out := h.Packet(b); len(out) != 0 {
			t.Fatalf("P22.1: Packet answers %d packets", len(out))
		}
	}
}

func receives(t *testing.T, h *Host, socket int, want api.Got) {
	t.Helper()
	g, e := h.Recv(socket)
	if e != api.OK || !sameGot(g, want) {
		t.Errorf("P22.1: Recv(%d) = %+v, %d; want %+v", socket, g, e, want)
	}
}

func recvFails(t *testing.T, h *Host, socket int, want api.Errno) {
	t.Helper()
	if g, e := h.Recv(socket); !sameGot(g, api.Got{}) || e != want {
		t.Errorf("P22.1: Recv(%d) = %+v, %d; want %d", socket, g, e, want)
	}
}

func sameGot(a, b api.Got) bool {
	return a.Src == b.Src && a.SPort == b.SPort && a.Dst == b.Dst && a.DPort == b.DPort && bytes.Equal(a.Data, b.Data)
}

func estimates(t *testing.T, h *Host, dst api.Addr, want int) {
	t.Helper()
	if n, e := h.Estimate(dst); n != want || e != api.OK {
		t.Errorf("P22.1: Estimate(%v) = %d, %d; want %d", dst, n, e, want)
	}
}

func estimateFails(t *testing.T, h *Host, dst api.Addr, want api.Errno) {
	t.Helper()
	if n, e := h.Estimate(dst); n != 0 || e != want {
		t.Errorf("P22.1: Estimate(%v) = %d, %d; want %d", dst, n, e, want)
	}
}

func counts(t *testing.T, h *Host, want [8]int) {
	t.Helper()
	if c := h.State().Counts; c != want {
		t.Errorf("P22.1: Counts = %v; want %v", c, want)
	}
}

func ticks(t *testing.T, h *Host, now int64) []api.Out {
	t.Helper()
	l, e := h.Tick(now)
	if e != api.OK {
		t.Fatalf("P22.1: Tick(%d) = %d", now, e)
	}
	return l
}

func sameState(a, b State) bool {
	return slices.Equal(a.Sockets, b.Sockets) && slices.Equal(a.Queues, b.Queues) && slices.Equal(a.Keys, b.Keys) &&
		a.Bytes == b.Bytes && slices.Equal(a.Paths, b.Paths) && a.Counts == b.Counts
}

func lengths(l [][]byte) []int {
	var out []int
	for _, b := range l {
		out = append(out, len(b))
	}
	return out
}

func taken(t *testing.T, b []byte) api.Packet {
	t.Helper()
	p, e := ip4.Parse(b)
	if e != api.OK {
		p, e = ip6.Parse(b)
	}
	if e != api.OK {
		t.Fatalf("P22.2: %x is no packet", b)
	}
	return p
}

// message takes a packet's message apart.
func message(t *testing.T, b []byte) (api.Packet, api.Message) {
	t.Helper()
	p := taken(t, b)
	m, e := icmp.Parse(p.Src, p.Dst, p.Data)
	if e != api.OK || p.Proto != map[int]int{4: 1, 6: 58}[p.V] {
		t.Fatalf("P22.1: %+v is no message", p)
	}
	return p, m
}

// laid is a right packet's bytes.
func laid(t *testing.T, p api.Packet) []byte {
	t.Helper()
	b, e := ip4.Build(p)
	if p.V == 6 {
		b, e = ip6.Build(p)
	}
	if e != api.OK {
		t.Fatalf("%+v is not right", p)
	}
	return b
}

func TestNewRefuses(t *testing.T) {
	route := func(v, bits, link int) api.Route { return api.Route{Net: api.Addr{V: v}, Bits: bits, Link: link} }
	rows := []func(c *api.HostConfig){
		func(c *api.HostConfig) { c.Addrs = []api.Addr{four(1), six(1), four(1)} },
		func(c *api.HostConfig) { c.Addrs = []api.Addr{six(1), six(1)} },
		func(c *api.HostConfig) { c.Links = []int{67} },
		func(c *api.HostConfig) { c.Links = []int{1500, 65536} },
		func(c *api.HostConfig) { c.Links = []int{1500, 0} },
		func(c *api.HostConfig) { c.Links = []int{-1500} },
		func(c *api.HostConfig) { c.Links = []int{math.MaxInt} },
		func(c *api.HostConfig) { c.Links = nil },
		func(c *api.HostConfig) { c.Links = slices.Repeat([]int{1500}, 17) },
		func(c *api.HostConfig) { c.Routes = []api.Route{route(4, 0, 0), route(4, 0, 0)} },
		func(c *api.HostConfig) { c.Routes = []api.Route{route(4, 0, 1)} },
		func(c *api.HostConfig) { c.Routes = []api.Route{route(4, 0, 0), route(6, 0, 15)} },
		func(c *api.HostConfig) { c.Routes = []api.Route{route(4, 0, -1)} },
		func(c *api.HostConfig) { c.Routes = []api.Route{route(4, 0, math.MinInt)} },
		func(c *api.HostConfig) { c.Routes = []api.Route{route(4, 33, 0)} },
		func(c *api.HostConfig) { c.Routes = []api.Route{{Net: four(1), Bits: 8}} },
		func(c *api.HostConfig) { c.Routes = make([]api.Route, 33) },
		func(c *api.HostConfig) {
			c.Links, c.Routes = slices.Repeat([]int{1500}, 16), []api.Route{route(4, 0, 16)}
		},
		func(c *api.HostConfig) { c.Quota = api.Quota{} },
		func(c *api.HostConfig) { c.Quota.Entries = 0 },
		func(c *api.HostConfig) { c.Quota.Entries = 65 },
		func(c *api.HostConfig) { c.Quota.Bytes = -1 },
		func(c *api.HostConfig) { c.Quota.Bytes = 1<<20 + 1 },
		func(c *api.HostConfig) { c.Quota.Holes = 0 },
		func(c *api.HostConfig) { c.Quota.Holes = 8193 },
		func(c *api.HostConfig) { c.Quota.Timeout = 0 },
		func(c *api.HostConfig) { c.Quota.Timeout = 1<<40 + 1 },
		func(c *api.HostConfig) { c.Paths.Entries = 0 },
		func(c *api.HostConfig) { c.Paths.Entries = 65 },
		func(c *api.HostConfig) { c.Paths.Age = 0 },
		func(c *api.HostConfig) { c.Paths.Age = 1<<40 + 1 },
		func(c *api.HostConfig) { c.Window = -1 },
		func(c *api.HostConfig) { c.Window = 65 },
		func(c *api.HostConfig) { c.Queue = -1 },
		func(c *api.HostConfig) { c.Queue = 65 },
		func(c *api.HostConfig) { c.Bytes = -1 },
		func(c *api.HostConfig) { c.Bytes = math.MinInt },
		func(c *api.HostConfig) { c.Sockets = 0 },
		func(c *api.HostConfig) { c.Sockets = 33 },
		func(c *api.HostConfig) { c.Life = -1 },
		func(c *api.HostConfig) { c.Life = 1<<32 + 1 },
		func(c *api.HostConfig) { *c = api.HostConfig{} },
	}
	for _, a := range notPlain() {
		rows = append(rows, func(c *api.HostConfig) { c.Addrs = []api.Addr{a} }, func(c *api.HostConfig) { c.Addrs = []api.Addr{four(1), a} })
	}
	nine := make([]api.Addr, 9)
	for i := range nine {
		nine[i] = four(byte(i + 1))
	}
	rows = append(rows, func(c *api.HostConfig) { c.Addrs = nine })
	for i, turn := range rows {
		c := plainConfig(1)
		turn(&c)
		if h, e := New(c); h != nil || e != api.ErrArg {
			t.Errorf("P22.1: row %d: New(%+v) = %d; want ErrArg", i, c, e)
		}
	}
}

func TestNewTakes(t *testing.T) {
	eight := make([]api.Addr, 8)
	for i := range eight {
		eight[i] = four(byte(i + 1))
	}
	rows := []func(c *api.HostConfig){
		func(c *api.HostConfig) {},
		func(c *api.HostConfig) { c.Addrs, c.Links, c.Routes = nil, nil, nil },
		func(c *api.HostConfig) { c.Addrs, c.Routes = nil, nil },
		func(c *api.HostConfig) { c.Addrs = eight },
		func(c *api.HostConfig) { c.Addrs = []api.Addr{{V: 4, B: four(1).B}, {V: 6, B: four(1).B}} },
		func(c *api.HostConfig) { c.Links = []int{68, 65535} },
		func(c *api.HostConfig) {
			c.Links, c.Routes = slices.Repeat([]int{68}, 16), []api.Route{{Net: any6, Bits: 0, Link: 15}}
		},
		func(c *api.HostConfig) { c.Quota = api.Quota{Entries: 1, Bytes: 0, Holes: 1, Timeout: 1} },
		func(c *api.HostConfig) {
			c.Quota = api.Quota{Entries: 64, Bytes: 1 << 20, Holes: 8192, Timeout: 1 << 40}
		},
		func(c *api.HostConfig) { c.Paths = api.Paths{Entries: 1, Age: 1} },
		func(c *api.HostConfig) { c.Paths = api.Paths{Entries: 64, Age: 1 << 40} },
		func(c *api.HostConfig) { c.Window = 0 },
		func(c *api.HostConfig) { c.Window = 64 },
		func(c *api.HostConfig) { c.Queue, c.Bytes = 0, 0 },
		func(c *api.HostConfig) { c.Queue, c.Bytes = 64, math.MaxInt },
		func(c *api.HostConfig) { c.Sockets = 1 },
		func(c *api.HostConfig) { c.Sockets = 32 },
		func(c *api.HostConfig) { c.Life = 1 << 32 },
	}
	for i, turn := range rows {
		c := plainConfig(1)
		turn(&c)
		h, e := New(c)
		if h == nil || e != api.OK {
			t.Errorf("P22.1: row %d: New(%+v) = %d", i, c, e)
			continue
		}
		if s := h.State(); !sameState(s, State{}) {
			t.Errorf("P22.1: row %d: a new host's State is %+v", i, s)
		}
	}
}

func TestBind(t *testing.T) {
	c := dualConfig(1)
	c.Sockets = 4
	h := made(t, c)
	binds(t, h, four(1), 1000, 1, 1000)
	binds(t, h, any4, 0, 2, 49152)
	bindFails(t, h, four(1), 1000, api.ErrInUse)
	bindFails(t, h, four(2), 5, api.ErrArg)
	bindFails(t, h, six(2), 5, api.ErrArg)
	bindFails(t, h, far4, 1000, api.ErrArg)
	for _, a := range notPlain() {
		if a != any4 && a != any6 {
			bindFails(t, h, a, 5, api.ErrArg)
		}
	}
	for _, port := range []int{-1, 65536, math.MinInt, math.MaxInt} {
		bindFails(t, h, four(1), port, api.ErrArg)
		bindFails(t, h, any6, port, api.ErrArg)
	}
	binds(t, h, any6, 5, 3, 5)
	binds(t, h, six(1), 65535, 4, 65535)
	bindFails(t, h, any4, 6, api.ErrSpent)
	bindFails(t, h, any4, 49152, api.ErrInUse)
	bindFails(t, h, six(2), 5, api.ErrArg)
	if s := h.State(); !slices.Equal(s.Sockets, []int{1, 2, 3, 4}) || !slices.Equal(s.Queues, []int{0, 0, 0, 0}) {
		t.Errorf("P22.1: State = %+v", s)
	}
}

func TestClose(t *testing.T) {
	a, b := made(t, plainConfig(1)), made(t, plainConfig(2))
	binds(t, a, four(1), 1000, 1, 1000)
	binds(t, b, any4, 7, 1, 7)
	quiet(t, b, sends(t, a, 1, four(2), 7, []byte("hi"), api.Flags{})...)
	for _, n := range []int{0, 2, -1, math.MaxInt, math.MinInt} {
		if e := b.Close(n); e != api.ErrArg {
			t.Errorf("P22.1: Close(%d) = %d", n, e)
		}
	}
	if s := b.State(); !slices.Equal(s.Queues, []int{1}) {
		t.Errorf("P22.1: Queues = %v", s.Queues)
	}
	if e := b.Close(1); e != api.OK {
		t.Errorf("P22.1: Close(1) = %d", e)
	}
	if e := b.Close(1); e != api.ErrArg {
		t.Errorf("P22.1: Close(1) again = %d", e)
	}
	recvFails(t, b, 1, api.ErrArg)
	sendFails(t, b, 1, four(1), 7, nil, api.Flags{}, api.ErrArg)
	if s := b.State(); len(s.Sockets) != 0 || len(s.Queues) != 0 {
		t.Errorf("P22.1: State = %+v", s)
	}
	// The same port again is another socket, whose queue is empty.
	binds(t, b, any4, 7, 2, 7)
	recvFails(t, b, 2, api.ErrEmpty)
	recvFails(t, b, 1, api.ErrArg)
}

func TestRecv(t *testing.T) {
	a, b := made(t, plainConfig(1)), made(t, plainConfig(2))
	binds(t, a, four(1), 1000, 1, 1000)
	binds(t, b, any4, 7, 1, 7)
	binds(t, b, any4, 8, 2, 8)
	want := api.Got{Src: four(1), SPort: 1000, Dst: four(2), DPort: 7}
	for _, s := range []string{"one", "", "three"} {
		quiet(t, b, sends(t, a, 1, four(2), 7, []byte(s), api.Flags{})...)
	}
	recvFails(t, b, 2, api.ErrEmpty)
	for i, s := range []string{"one", "", "three"} {
		if q := b.State().Queues; !slices.Equal(q, []int{3 - i, 0}) {
			t.Errorf("P22.1: Queues = %v", q)
		}
		want.Data = []byte(s)
		receives(t, b, 1, want)
	}
	recvFails(t, b, 1, api.ErrEmpty)
	for _, n := range []int{0, 3, -1, math.MaxInt, math.MinInt} {
		recvFails(t, b, n, api.ErrArg)
	}
	counts(t, b, [8]int{})
}

func TestEstimate(t *testing.T) {
	c := dualConfig(1)
	c.Links = []int{1500, 1279, 1280, 68}
	c.Routes = []api.Route{
		{Net: api.Addr{V: 4, B: [16]byte{10}}, Bits: 8, Link: 0},
		{Net: four(2), Bits: 32, Link: 3},
		{Net: api.Addr{V: 6, B: [16]byte{0x20}}, Bits: 8, Link: 2},
		{Net: six(2), Bits: 128, Link: 1},
		{Net: api.Addr{V: 6, B: [16]byte{255}}, Bits: 8, Link: 0},
		{Net: api.Addr{V: 4, B: [16]byte{224}}, Bits: 4, Link: 1},
	}
	h := made(t, c)
	estimates(t, h, four(3), 1500)
	estimates(t, h, four(2), 68)
	estimates(t, h, four(1), 1500) // its own address, too
	estimates(t, h, api.Addr{V: 4, B: [16]byte{224, 0, 0, 1}}, 1279)
	estimates(t, h, six(3), 1280)
	estimates(t, h, six(1), 1280)
	estimates(t, h, api.Addr{V: 6, B: [16]byte{255, 2}}, 1500)
	estimateFails(t, h, six(2), api.ErrRoute) // a shorter prefix is not asked
	estimateFails(t, h, far4, api.ErrRoute)
	estimateFails(t, h, far6, api.ErrRoute)
	estimateFails(t, h, any4, api.ErrRoute)
	for _, a := range notPlain()[8:] {
		estimateFails(t, h, a, api.ErrArg)
	}
}

// The chapter's examples, one behind the other.
func TestExamples(t *testing.T) {
	a, b := made(t, plainConfig(1)), made(t, plainConfig(2))
	binds(t, a, four(1), 1000, 1, 1000)
	binds(t, a, any4, 0, 2, 49152)
	bindFails(t, a, four(2), 5, api.ErrArg)
	binds(t, a, any6, 5, 3, 5)
	hi := sends(t, a, 1, four(2), 7, []byte("hi"), api.Flags{})
	if p := taken(t, hi[0]); len(hi) != 1 || len(hi[0]) != 30 || p.ID != 0 {
		t.Errorf("P22.1: %d packets, %+v", len(hi), p)
	}
	if p := taken(t, sends(t, a, 1, four(2), 7, []byte("hi"), api.Flags{})[0]); p.ID != 1 {
		t.Errorf("P22.1: ID %d", p.ID)
	}
	sendFails(t, a, 9, four(2), 7, nil, api.Flags{}, api.ErrArg)
	sendFails(t, a, 1, api.Addr{V: 4, B: [16]byte{224, 0, 0, 1}}, 7, nil, api.Flags{}, api.ErrArg)
	sendFails(t, a, 1, api.Addr{V: 6, B: [16]byte{15: 1}}, 7, nil, api.Flags{}, api.ErrArg)
	sendFails(t, a, 1, four(1), 7, nil, api.Flags{}, api.ErrArg)
	sendFails(t, a, 1, four(2), 0, nil, api.Flags{}, api.ErrArg)
	sendFails(t, a, 1, far4, 7, nil, api.Flags{}, api.ErrRoute)
	sendFails(t, a, 3, six(1), 7, nil, api.Flags{}, api.ErrRoute)

	binds(t, b, any4, 7, 1, 7)
	quiet(t, b, hi[0])
	receives(t, b, 1, api.Got{Src: four(1), SPort: 1000, Dst: four(2), DPort: 7, Data: []byte("hi")})
	recvFails(t, b, 1, api.ErrEmpty)
	recvFails(t, b, 2, api.ErrArg)
	eight := sends(t, a, 1, four(2), 8, []byte("hi"), api.Flags{})
	out := overLink(t, b.Packet(eight[0]), 0)
	if len(out) != 1 || len(out[0]) != 56 {
		t.Fatalf("P22.1: NoPort: %v", lengths(out))
	}
	counts(t, b, [8]int{3: 1})
	was := a.State()
	quiet(t, a, out[0])
	was.Counts = [8]int{5: 1, 6: 1}
	if s := a.State(); !sameState(s, was) {
		t.Errorf("P22.1: State = %+v; want %+v", s, was)
	}

	full := sends(t, a, 1, four(2), 7, make([]byte, 1472), api.Flags{})
	if l := lengths(full); !slices.Equal(l, []int{1500}) {
		t.Errorf("P22.1: of 1472 bytes: %v", l)
	}
	two := sends(t, a, 1, four(2), 7, make([]byte, 1473), api.Flags{})
	if l := lengths(two); !slices.Equal(l, []int{1500, 21}) {
		t.Errorf("P22.1: of 1473 bytes: %v", l)
	}
	sendFails(t, a, 1, four(2), 7, make([]byte, 1473), api.Flags{DF: true}, api.ErrBig)

	m, _ := icmp.TooBig(full[0], 576)
	spoilt := m
	spoilt.Body = bytes.Clone(m.Body)
	spoilt.Body[20]++
	quiet(t, a, about(t, four(9), four(1), spoilt))
	counts(t, a, [8]int{5: 2, 6: 1})
	estimates(t, a, four(2), 1500)
	quiet(t, a, about(t, four(9), four(1), m))
	counts(t, a, [8]int{5: 3, 6: 2, 7: 1})
	estimates(t, a, four(2), 576)

	quiet(t, b, two[0])
	if l := ticks(t, b, 59); len(l) != 0 {
		t.Errorf("P22.1: Tick(59) answers %d packets", len(l))
	}
	late := overLink(t, ticks(t, b, 60), 0)
	if len(late) != 1 || len(late[0]) != 56 {
		t.Fatalf("P22.1: Tick(60): %v", lengths(late))
	}
	if p, m := message(t, late[0]); p.Src != four(2) || p.Dst != four(1) || m.Type != 11 || m.Code != 1 {
		t.Errorf("P22.1: LateParts: %+v, %+v", p, m)
	}
	quiet(t, b, two[1])
	if l := ticks(t, b, 120); len(l) != 0 || len(b.State().Keys) != 0 {
		t.Errorf("P22.1: Tick(120) answers %d packets", len(l))
	}
}

// about is a message laid as a packet from one to the other.
func about(t *testing.T, src, dst api.Addr, m api.Message) []byte {
	t.Helper()
	p := api.Packet{V: src.V, Src: src, Dst: dst, Proto: 1, TTL: 7, ID: 99}
	if p.V == 6 {
		p.Proto, p.ID = 58, 0
	}
	var e api.Errno
	if p.Data, e = icmp.Build(src, dst, m); e != api.OK {
		t.Fatalf("%+v is no message", m)
	}
	return laid(t, p)
}
