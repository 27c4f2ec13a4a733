package trace

import (
	"bytes"
	"slices"
	"testing"

	"mosaic/api"
	"mosaic/ip4"
	"mosaic/ip6"
	"mosaic/net"
)

// four is 10.0.a.b, six 2001:db8:a::b.
func four(a, b byte) api.Addr { return api.Addr{V: 4, B: [16]byte{10, 0, a, b}} }

func six(a, b byte) api.Addr {
	return api.Addr{V: 6, B: [16]byte{0x20, 0x01, 0x0d, 0xb8, 0, a, 15: b}}
}

var (
	any4 = api.Addr{V: 4}
	any6 = api.Addr{V: 6}
)

// plainHost is a host as a world's text has it, if that says no more than its addresses and routes.
func plainHost(mtu int, routes []api.Route, addrs ...api.Addr) api.HostConfig {
	return api.HostConfig{
		Addrs:   addrs,
		Links:   []int{mtu},
		Routes:  routes,
		Quota:   api.Quota{Entries: 16, Bytes: 131072, Holes: 8192, Timeout: 60},
		Paths:   api.Paths{Entries: 16, Age: 600},
		Window:  16,
		Queue:   16,
		Bytes:   131072,
		Sockets: 16,
	}
}

// config is the world of the document's ten examples: host 0 is 10.0.0.1, host 1 10.0.1.1, the router between them node 2.
func config() net.Config {
	all := func() []api.Route { return []api.Route{{Net: api.Addr{V: 4, B: [16]byte{10}}, Bits: 8}} }
	return net.Config{
		Hosts: []api.HostConfig{plainHost(1500, all(), four(0, 1)), plainHost(576, all(), four(1, 1))},
		Hops: []api.HopConfig{{
			Addrs:  []api.Addr{four(0, 9)},
			Links:  []int{1500, 576},
			Routes: []api.Route{{Net: four(0, 0), Bits: 24, Link: 0}, {Net: four(1, 0), Bits: 24, Link: 1}},
		}},
		Links: []net.Link{{A: 0, LinkA: 0, B: 2, LinkB: 0, MTU: 1500}, {A: 1, LinkA: 0, B: 2, LinkB: 1, MTU: 576}},
	}
}

// made is a world that is closed at the end of the test.
func made(t *testing.T, c net.Config) *World {
	t.Helper()
	w, e := New(c)
	if w == nil || e != api.OK {
		t.Fatalf("P25.1: New(%+v) = %v, %d", c, w, e)
	}
	t.Cleanup(w.Close)
	return w
}

// begun is a world of the examples behind their binds.
func begun(t *testing.T, c net.Config) *World {
	t.Helper()
	w := made(t, c)
	does(t, w, api.Move{Kind: api.MvBind, Node: 0, Addr: four(0, 1), Port: 1000})
	does(t, w, api.Move{Kind: api.MvBind, Node: 1, Addr: any4, Port: 7})
	does(t, w, api.Move{Kind: api.MvBind, Node: 1, Addr: four(1, 1), Port: 7})
	return w
}

// does makes a move that must be accepted.
func does(t *testing.T, w *World, m api.Move) api.Answer {
	t.Helper()
	a := w.Do(m)
	if a.Code != api.OK {
		t.Fatalf("P25.2: Do(%+v) = %d", brief(m), a.Code)
	}
	return a
}

// sends: host 0's first socket sends n bytes to host 1.
func sends(t *testing.T, w *World, port, n int, f api.Flags) {
	t.Helper()
	does(t, w, api.Move{Kind: api.MvSend, Socket: 1, Addr: four(1, 1), Port: port, Data: pattern(n), Flags: f})
}

func forwards(t *testing.T, w *World, places ...int) {
	t.Helper()
	for _, k := range places {
		does(t, w, api.Move{Kind: api.MvForward, K: k})
	}
}

// injects a packet to a node.
func injects(t *testing.T, w *World, node int, p api.Packet) {
	t.Helper()
	does(t, w, api.Move{Kind: api.MvInject, Node: node, Data: laid(t, p)})
}

func laid(t *testing.T, p api.Packet) []byte {
	t.Helper()
	b, e := ip4.Build(p)
	if p.V == 6 {
		b, e = ip6.Build(p)
	}
	if e != api.OK {
		t.Fatalf("%+v is not right", p)
	}
	return b
}

// taken is the packet that bytes are; V 0: they are none.
func taken(b []byte) api.Packet {
	p, e := ip4.Parse(b)
	if e != api.OK {
		p, _ = ip6.Parse(b)
	}
	return p
}

func keyOf(p api.Packet) api.Key {
	return api.Key{V: p.V, Src: p.Src, Dst: p.Dst, Proto: p.Proto, ID: p.ID}
}

func isFragment(p api.Packet) bool { return p.Off > 0 || p.More }

func pattern(n int) []byte {
	b := make([]byte, n)
	for i := range b {
		b[i] = byte(i % 251)
	}
	return b
}

// brief is a move as a failure tells it: of long data just the beginning.
func brief(m api.Move) api.Move {
	m.Data = m.Data[:min(len(m.Data), 8)]
	return m
}

// numbers are those of all that is under way.
func numbers(w *World) []int {
	var l []int
	for k := range w.Flight() {
		l = append(l, w.Of(k))
	}
	return l
}

// has: the numbers of the flight are these, and no other place has one.
func has(t *testing.T, w *World, want ...int) {
	t.Helper()
	if got := numbers(w); !slices.Equal(got, want) {
		t.Fatalf("P25.1: the numbers are %v; want %v", got, want)
	}
	for _, k := range []int{-1 << 63, -2, -1, len(want), len(want) + 1, 1<<63 - 1} {
		if n := w.Of(k); n != 0 {
			t.Fatalf("P25.1: Of(%d) of %d places = %d", k, len(want), n)
		}
	}
}

func isClear(t *testing.T, w *World, want bool) {
	t.Helper()
	if w.Clear() != want {
		t.Fatalf("P25.1: Clear() = %v", !want)
	}
}

func sameSent(a, b Sent) bool {
	return a.Number == b.Number && a.Src == b.Src && a.SPort == b.SPort && a.Dst == b.Dst && a.DPort == b.DPort && bytes.Equal(a.Data, b.Data)
}

func sameSends(a, b []Sent) bool { return slices.EqualFunc(a, b, sameSent) }

func sent(t *testing.T, w *World, want ...Sent) {
	t.Helper()
	if got := w.Sends(); !sameSends(got, want) {
		t.Fatalf("P25.1: Sends() = %+v; want %+v", got, want)
	}
}

// P25.1: a new world.
func TestNew(t *testing.T) {
	w := made(t, config())
	has(t, w)
	isClear(t, w, true)
	sent(t, w)
	beneath := w.Net()
	if beneath == nil || beneath != w.Net() || len(beneath.Flight()) != 0 || beneath.Now() != 0 || beneath.Lost() != 0 {
		t.Error("P25.1: the world beneath is not a new one")
	}
	does(t, w, api.Move{Kind: api.MvTick})
	if w.Net() != beneath || beneath.Now() != 1 {
		t.Error("P25.1: the world beneath has not been moved")
	}
}

// P25.1: what net refuses is refused, by its error, and there is no world.
func TestRefusedConfigs(t *testing.T) {
	for what, change := range map[string]func(c *net.Config){
		"no node":             func(c *net.Config) { *c = net.Config{} },
		"a link too few":      func(c *net.Config) { c.Links = c.Links[:1] },
		"a host's quota":      func(c *net.Config) { c.Hosts[0].Quota.Entries = 0 },
		"a host's addresses":  func(c *net.Config) { c.Hosts[0].Addrs = []api.Addr{any4} },
		"a router's route":    func(c *net.Config) { c.Hops[0].Routes[0].Link = 2 },
		"an unlike MTU":       func(c *net.Config) { c.Links[0].MTU = 1400 },
		"more than 16 nodes":  func(c *net.Config) { c.Hops = make([]api.HopConfig, 17) },
		"a link to no node":   func(c *net.Config) { c.Links[0].B = 9 },
		"a link to no number": func(c *net.Config) { c.Links[0].LinkB = -1 },
	} {
		c := config()
		change(&c)
		_, want := net.New(c)
		if w, e := New(c); w != nil || e != want || e == api.OK {
			t.Errorf("P25.1: New with %s = %v, %d; want %d", what, w, e, want)
		}
	}
}

// P25.1: worlds without hosts, and without routers.
func TestOneKindOfNodes(t *testing.T) {
	w := made(t, net.Config{Hops: make([]api.HopConfig, 3)})
	does(t, w, api.Move{Kind: api.MvInject, Node: 2, Data: []byte{1}})
	does(t, w, api.Move{Kind: api.MvTick})
	has(t, w, 1)
	forwards(t, w, 0)
	has(t, w)

	a, b := plainHost(68, []api.Route{{Net: any4}}, four(0, 1)), plainHost(68, []api.Route{{Net: any4}}, four(1, 1))
	w = made(t, net.Config{Hosts: []api.HostConfig{a, b}, Links: []net.Link{{A: 0, B: 1, MTU: 68}}})
	does(t, w, api.Move{Kind: api.MvBind, Addr: any4, Port: 1000})
	sends(t, w, 7, 100, api.Flags{})
	has(t, w, 1, 1, 1)
	forwards(t, w, 2, 0, 0)
	has(t, w, 2) // nobody has that port
}

// The examples of the chapter, in their order.
func TestExamples(t *testing.T) {
	w := begun(t, config())
	sends(t, w, 7, 10, api.Flags{})
	has(t, w, 1)
	first := Sent{Number: 1, Src: four(0, 1), SPort: 1000, Dst: four(1, 1), DPort: 7, Data: pattern(10)}
	sent(t, w, first)
	forwards(t, w, 0)
	has(t, w, 1)
	forwards(t, w, 0)
	has(t, w)

	sends(t, w, 7, 1400, api.Flags{})
	has(t, w, 2)
	forwards(t, w, 0)
	has(t, w, 2, 2, 2)
	does(t, w, api.Move{Kind: api.MvTwin})
	has(t, w, 2, 2, 2, 2)
	isClear(t, w, true)
	does(t, w, api.Move{Kind: api.MvSpoil, J: 30, Mask: 1})
	has(t, w, 3, 2, 2, 2)
	isClear(t, w, false)
	for range 4 {
		does(t, w, api.Move{Kind: api.MvDrop})
	}
	isClear(t, w, false)

	sends(t, w, 9, 10, api.Flags{})
	has(t, w, 4)
	forwards(t, w, 0, 0)
	has(t, w, 5)
	forwards(t, w, 0, 0)
	has(t, w)
	does(t, w, api.Move{Kind: api.MvInject, Node: 1, Data: []byte{0}})
	has(t, w, 6)
	sent(t, w, first,
		Sent{Number: 2, Src: four(0, 1), SPort: 1000, Dst: four(1, 1), DPort: 7, Data: pattern(1400)},
		Sent{Number: 4, Src: four(0, 1), SPort: 1000, Dst: four(1, 1), DPort: 9, Data: pattern(10)})
}

// The sixth example: two sends with one identification, and 65536 between them.
func TestOneIdentification(t *testing.T) {
	for _, both := range []bool{false, true} {
		w := begun(t, config())
		sends(t, w, 7, 1400, api.Flags{})
		for range 65535 {
			does(t, w, api.Move{Kind: api.MvSend, Socket: 1, Addr: four(1, 1), Port: 7})
			does(t, w, api.Move{Kind: api.MvDrop, K: 1})
		}
		sends(t, w, 7, 1300, api.Flags{})
		has(t, w, 1, 65537)
		if l := w.Flight(); taken(l[0].Bytes).ID != 0 || taken(l[1].Bytes).ID != 0 {
			t.Fatal("the identifications are not the same")
		}
		isClear(t, w, true)
		forwards(t, w, 1)
		has(t, w, 1, 65537, 65537, 65537)
		isClear(t, w, true)
		if !both { // the other stays whole, gets there, and all is put together by itself
			forwards(t, w, 1, 1, 1)
			isClear(t, w, true)
			forwards(t, w, 0)
			has(t, w, 1, 1, 1)
			isClear(t, w, true)
			continue
		}
		forwards(t, w, 0)
		has(t, w, 65537, 65537, 65537, 1, 1, 1)
		isClear(t, w, false)
		if l := w.Sends(); len(l) != 65537 || l[0].Number != 1 || l[65536].Number != 65537 || len(l[65536].Data) != 1300 {
			t.Errorf("P25.1: there are %d sends", len(l))
		}
	}
}

// P25.1: each move by itself: which numbers stand where behind it.
func TestEachMove(t *testing.T) {
	laden := func() *World { // the numbers 1, 2 and 3; 1 is three fragments on their way to host 1
		w := begun(t, config())
		sends(t, w, 7, 1400, api.Flags{})
		forwards(t, w, 0)
		sends(t, w, 7, 100, api.Flags{})
		does(t, w, api.Move{Kind: api.MvInject, Node: 0, Data: []byte{9, 8, 7}})
		has(t, w, 1, 1, 1, 2, 3)
		return w
	}
	for _, row := range []struct {
		m    api.Move
		want []int
	}{
		{api.Move{Kind: api.MvBind, Addr: four(0, 1), Port: 5}, []int{1, 1, 1, 2, 3}},
		{api.Move{Kind: api.MvShut, Socket: 1}, []int{1, 1, 1, 2, 3}},
		{api.Move{Kind: api.MvEstimate, Addr: four(1, 1)}, []int{1, 1, 1, 2, 3}},
		{api.Move{Kind: api.MvTick}, []int{1, 1, 1, 2, 3}},
		{api.Move{Kind: api.MvSend, Socket: 1, Addr: four(1, 1), Port: 7}, []int{1, 1, 1, 2, 3, 4}},
		{api.Move{Kind: api.MvSend, Socket: 1, Addr: four(1, 1), Port: 7, Data: pattern(3000)}, []int{1, 1, 1, 2, 3, 4, 4, 4}},
		{api.Move{Kind: api.MvForward, K: 0}, []int{1, 1, 2, 3}},
		{api.Move{Kind: api.MvForward, K: 3}, []int{1, 1, 1, 3, 2}},
		{api.Move{Kind: api.MvForward, K: 4}, []int{1, 1, 1, 2}},
		{api.Move{Kind: api.MvDrop, K: 0}, []int{1, 1, 2, 3}},
		{api.Move{Kind: api.MvDrop, K: 4}, []int{1, 1, 1, 2}},
		{api.Move{Kind: api.MvTwin, K: 2}, []int{1, 1, 1, 1, 2, 3}},
		{api.Move{Kind: api.MvTwin, K: 4}, []int{1, 1, 1, 2, 3, 3}},
		{api.Move{Kind: api.MvSwap, K: 0, J: 4}, []int{3, 1, 1, 2, 1}},
		{api.Move{Kind: api.MvSwap, K: 3, J: 3}, []int{1, 1, 1, 2, 3}},
		{api.Move{Kind: api.MvSpoil, K: 1, J: 1, Mask: 128}, []int{1, 4, 1, 2, 3}},
		{api.Move{Kind: api.MvSpoil, K: 4, J: 2, Mask: 1}, []int{1, 1, 1, 2, 4}},
		{api.Move{Kind: api.MvInject, Node: 2}, []int{1, 1, 1, 2, 3, 4}},
		{api.Move{Kind: api.MvRecut, K: 0, J: 300}, []int{1, 1, 1, 1, 2, 3}},
		{api.Move{Kind: api.MvRecut, K: 3, J: 68}, []int{1, 1, 1, 2, 2, 2, 3}},
		{api.Move{Kind: api.MvRecut, K: 3, J: 1500}, []int{1, 1, 1, 2, 3}},
	} {
		w := laden()
		does(t, w, row.m)
		if got := numbers(w); !slices.Equal(got, row.want) {
			t.Errorf("P25.1: behind %+v the numbers are %v; want %v", brief(row.m), got, row.want)
		}
	}
}

// P25.1: a packet keeps its number from router to router, cut or not; what a router tells of it takes the next one.
func TestRouters(t *testing.T) {
	w := begun(t, config())
	for i, p := range []api.Packet{
		{V: 4, Src: four(0, 1), Dst: four(1, 1), Proto: 17, TTL: 2, ID: 9, Data: pattern(100)},
		{V: 4, Src: four(0, 1), Dst: four(1, 1), Proto: 17, TTL: 2, ID: 9, Data: pattern(1400)},
		{V: 4, Src: four(0, 1), Dst: four(1, 1), Proto: 1, TTL: 2, ID: 9, More: true, Off: 8, Data: pattern(800)},
	} {
		injects(t, w, 2, p)
		forwards(t, w, 0)
		has(t, w, [][]int{{1}, {2, 2, 2}, {3, 3}}[i]...)
		for range w.Flight() {
			does(t, w, api.Move{Kind: api.MvDrop})
		}
	}
	for i, p := range []api.Packet{
		{V: 4, Src: four(0, 1), Dst: four(1, 1), Proto: 17, TTL: 1, Data: pattern(100)},
		{V: 4, Src: four(0, 1), Dst: four(3, 1), Proto: 17, TTL: 2, Data: pattern(100)},
		{V: 4, Src: four(0, 1), Dst: four(1, 1), Proto: 17, TTL: 2, DF: true, Data: pattern(1400)},
		{V: 4, Src: four(0, 1), Dst: four(1, 1), Proto: 1, TTL: 1, More: true, Data: append([]byte{8}, pattern(7)...)},
	} {
		injects(t, w, 2, p)
		has(t, w, 4+2*i)
		forwards(t, w, 0)
		has(t, w, 5+2*i)
		does(t, w, api.Move{Kind: api.MvDrop})
	}
	injects(t, w, 2, api.Packet{V: 4, Src: four(3, 1), Dst: four(1, 1), Proto: 17, TTL: 1})
	forwards(t, w, 0) // no message goes out, and none takes a number
	does(t, w, api.Move{Kind: api.MvInject, Node: 2})
	has(t, w, 13)
}

// narrow is the examples' world with 68 bytes for all links, so that messages about packets with long heads are cut.
func narrow() net.Config {
	c := config()
	for i := range 2 {
		c.Hosts[i].Links[0], c.Hops[0].Links[i], c.Links[i].MTU = 68, 68, 68
		c.Hosts[i].Quota.Timeout = 3
	}
	return c
}

var longHead = append([]byte{0x94, 4, 0, 0}, bytes.Repeat([]byte{1}, 36)...)

// P25.1: of a message's packets those behind the first have its number; two messages have two.
func TestCutMessages(t *testing.T) {
	w := begun(t, narrow())
	injects(t, w, 1, api.Packet{V: 4, Src: four(0, 1), Dst: four(1, 1), Proto: 17, TTL: 9, Opts: longHead, Data: []byte{0, 9, 0, 9, 0, 8, 0, 0}})
	forwards(t, w, 0)
	has(t, w, 2, 2) // 76 bytes of message
	isClear(t, w, true)
	forwards(t, w, 0, 0)
	has(t, w, 2, 2)
	isClear(t, w, true)
	forwards(t, w, 0, 0)
	injects(t, w, 2, api.Packet{V: 4, Src: four(0, 1), Dst: four(1, 1), Proto: 17, TTL: 1, Opts: longHead, Data: pattern(8)})
	forwards(t, w, 0)
	has(t, w, 4, 4)
	forwards(t, w, 0, 0)
	has(t, w)

	for id := range 3 {
		p := api.Packet{V: 4, Src: four(0, 1), Dst: four(1, 1), Proto: 17, TTL: 9, ID: uint32(id), More: true, Data: pattern(16)}
		if id != 1 {
			p.Opts = longHead
		}
		injects(t, w, 1, p)
		forwards(t, w, 0)
	}
	does(t, w, api.Move{Kind: api.MvInject, Node: 0})
	has(t, w, 8)
	for range 3 {
		does(t, w, api.Move{Kind: api.MvTick})
	}
	has(t, w, 8, 9, 9, 10, 11, 11)
	isClear(t, w, true)
}

// P25.1: messages of two hosts at one tick, in the order in which they stand.
func TestTick(t *testing.T) {
	c := narrow()
	w := begun(t, c)
	for i := range 2 {
		injects(t, w, i, api.Packet{V: 4, Src: four(byte(1-i), 1), Dst: four(byte(i), 1), Proto: 17, TTL: 9, Opts: longHead, More: true, Data: pattern(16)})
		forwards(t, w, 0)
	}
	has(t, w)
	for range 3 {
		does(t, w, api.Move{Kind: api.MvTick})
	}
	has(t, w, 3, 3, 4, 4)
	for k, x := range w.Flight() {
		if taken(x.Bytes).Src != four(byte(k/2), 1) {
			t.Errorf("P25.1: the message %d is from %v", k, taken(x.Bytes).Src)
		}
	}
}

// P25.1: the source's address of a send: the one that its socket is bound to, or the host's least of that version.
func TestSources(t *testing.T) {
	c := config()
	c.Hosts[0].Addrs = []api.Addr{four(0, 7), six(0, 5), four(0, 3), six(0, 4), four(0, 5), six(0, 6)}
	c.Hosts[0].Routes = append(c.Hosts[0].Routes, api.Route{Net: any6})
	w := made(t, c)
	var want []Sent
	for i, a := range []api.Addr{any4, any6, four(0, 5), six(0, 6), four(0, 3), four(0, 7), six(0, 4)} {
		got := does(t, w, api.Move{Kind: api.MvBind, Addr: a, Port: 100 * (i % 3)})
		s := Sent{Number: i + 1, Src: a, SPort: got.Port, Dst: four(1, 1), DPort: 7 + i, Data: pattern(i)}
		switch a {
		case any4:
			s.Src = four(0, 3)
		case any6:
			s.Src = six(0, 4)
		}
		if a.V == 6 {
			s.Dst = six(1, 1)
		}
		want = append(want, s)
	}
	for i, s := range want {
		does(t, w, api.Move{Kind: api.MvSend, Socket: i + 1, Addr: s.Dst, Port: s.DPort, Data: s.Data})
	}
	sent(t, w, want...)
	for k, x := range w.Flight() {
		if p := taken(x.Bytes); p.Src != want[k].Src {
			t.Errorf("P25.1: send %d goes out from %v; the ghost says %v", k, p.Src, want[k].Src)
		}
	}
	for i := range want { // a socket that is no more has sent what it has sent
		does(t, w, api.Move{Kind: api.MvShut, Socket: i + 1})
	}
	sent(t, w, want...)
	got := does(t, w, api.Move{Kind: api.MvBind, Addr: four(0, 7)})
	does(t, w, api.Move{Kind: api.MvSend, Socket: got.N, Addr: four(1, 1), Port: 1})
	sent(t, w, append(want, Sent{Number: 8, Src: four(0, 7), SPort: got.Port, Dst: four(1, 1), DPort: 1})...)
}

// P25.1: sockets of two hosts with one number are two.
func TestSocketsOfTwoHosts(t *testing.T) {
	w := begun(t, config())
	for i := range 2 {
		does(t, w, api.Move{Kind: api.MvSend, Node: i, Socket: 1, Addr: four(byte(1-i), 1), Port: 9})
	}
	sent(t, w, Sent{Number: 1, Src: four(0, 1), SPort: 1000, Dst: four(1, 1), DPort: 9}, Sent{Number: 2, Src: four(1, 1), SPort: 7, Dst: four(0, 1), DPort: 9})
	does(t, w, api.Move{Kind: api.MvShut, Node: 0, Socket: 1})
	does(t, w, api.Move{Kind: api.MvSend, Node: 1, Socket: 1, Addr: four(0, 1), Port: 9})
	if l := w.Sends(); len(l) != 3 || l[2].SPort != 7 || l[2].Src != four(1, 1) {
		t.Errorf("P25.1: Sends() = %+v", l)
	}
}

// full is the examples' world with a packet of 128 bytes at place 0, one of 1428 at place 1, and injected ones behind them that leave room for so many.
func full(t *testing.T, room int) (*World, []int) {
	t.Helper()
	w := begun(t, config())
	sends(t, w, 7, 100, api.Flags{})
	sends(t, w, 7, 1400, api.Flags{})
	want := []int{1, 2}
	for i := range api.MaxFlight - 2 - room {
		does(t, w, api.Move{Kind: api.MvInject, Node: i % 2, Data: []byte{byte(i), byte(i >> 8)}})
		want = append(want, i+3)
	}
	has(t, w, want...)
	return w, want
}

// P25.1: what is lost takes no number, but a send does.
func TestFullFlight(t *testing.T) {
	w, want := full(t, 0)
	for range 2 {
		does(t, w, api.Move{Kind: api.MvInject, Node: 1, Data: []byte{1}})
		does(t, w, api.Move{Kind: api.MvTwin, K: 7})
	}
	has(t, w, want...)
	sends(t, w, 7, 2000, api.Flags{})
	has(t, w, want...)
	if l := w.Sends(); len(l) != 3 || l[2].Number != 16385 {
		t.Fatalf("P25.1: %d sends", len(l))
	}
	forwards(t, w, 1) // the router cuts it in three: there is room for one
	want = append(slices.Delete(want, 1, 2), 2)
	has(t, w, want...)
	does(t, w, api.Move{Kind: api.MvRecut, K: 0, J: 68})
	has(t, w, want...)
	does(t, w, api.Move{Kind: api.MvSpoil, K: 5, J: 1, Mask: 1})
	want[5] = 16386
	has(t, w, want...)
	if w.Lost() != 2*2+2+2+2 {
		t.Errorf("%d are lost", w.Lost())
	}
	does(t, w, api.Move{Kind: api.MvDrop, K: 3})
	does(t, w, api.Move{Kind: api.MvInject, Node: 1, Data: []byte{1}})
	has(t, w, append(slices.Delete(want, 3, 4), 16387)...)
	isClear(t, w, true)
}

// P25.1: of what a move puts into a flight with little room the earlier ones go in.
func TestNearlyFullFlight(t *testing.T) {
	w, want := full(t, 1)
	sends(t, w, 7, 2000, api.Flags{})
	has(t, w, append(want, 16384)...)
	for room := range 4 {
		w, want = full(t, room)
		does(t, w, api.Move{Kind: api.MvRecut, K: 1, J: 500}) // three pieces
		has(t, w, slices.Insert(want, 1, []int{2, 2}[:min(2, room)]...)...)
	}
}

// P25.1: a message all of whose packets are lost takes no number; one of which a packet goes in does.
func TestLostMessages(t *testing.T) {
	for room := range 4 {
		w := begun(t, narrow())
		for i := range 2 {
			injects(t, w, i, api.Packet{V: 4, Src: four(byte(1-i), 1), Dst: four(byte(i), 1), Proto: 17, TTL: 9, Opts: longHead, More: true, Data: pattern(16)})
			forwards(t, w, 0)
		}
		for range api.MaxFlight - room {
			does(t, w, api.Move{Kind: api.MvInject, Node: 1, Data: []byte{1}})
		}
		for range 3 {
			does(t, w, api.Move{Kind: api.MvTick})
		}
		if n := w.Lost(); n != 4-room {
			t.Fatalf("%d are lost", n)
		}
		given := api.MaxFlight - room + 2
		want := [][]int{{}, {1}, {1, 1}, {1, 1, 2}}[room]
		for i, n := range want {
			if got := w.Of(api.MaxFlight - room + i); got != given+n {
				t.Errorf("P25.1: with room for %d the number %d is %d; want %d", room, i, got, given+n)
			}
		}
		does(t, w, api.Move{Kind: api.MvSpoil, K: 0, J: 0, Mask: 1})
		if got, n := w.Of(0), given+1+[]int{0, 1, 1, 2}[room]; got != n {
			t.Errorf("P25.1: with room for %d the next number is %d; want %d", room, got, n)
		}
	}
}

// P25.1: behind Close no move does anything, and all that is asked is answered as ahead of it.
func TestClose(t *testing.T) {
	w := begun(t, config())
	sends(t, w, 7, 1400, api.Flags{})
	forwards(t, w, 0, 0)
	does(t, w, api.Move{Kind: api.MvInject, Node: 1, Data: []byte{4, 5}})
	want := w.Sends()
	for range 3 {
		w.Close()
		for kind := -1; kind < 16; kind++ {
			for _, m := range []api.Move{{}, {Addr: four(1, 1), Port: 7, Socket: 1, Mask: 1, J: 68}, {Node: 1, Socket: 2}, {K: 99}} {
				m.Kind = kind
				if a := w.Do(m); !sameAnswer(a, api.Answer{Code: api.ErrArg}) {
					t.Errorf("P25.1: behind Close Do(%+v) = %+v", m, a)
				}
			}
		}
		if a := w.Net().Do(api.Move{Kind: api.MvTick}); a.Code != api.ErrArg {
			t.Errorf("P25.1: the world beneath is not closed: %d", a.Code)
		}
		has(t, w, 1, 1, 2)
		isClear(t, w, true)
		sent(t, w, want...)
		if s, e := w.State(1); e != api.OK || len(s.Keys) != 1 || w.Now() != 0 || w.Lost() != 0 {
			t.Errorf("P25.1: behind Close State(1) = %+v, %d", s, e)
		}
	}
}

// P25.1: one world is closed, and another goes on.
func TestCloseOne(t *testing.T) {
	a, b := begun(t, config()), begun(t, config())
	sends(t, a, 7, 10, api.Flags{})
	a.Close()
	sends(t, b, 7, 1400, api.Flags{})
	forwards(t, b, 0)
	has(t, a, 1)
	has(t, b, 1, 1, 1)
}

func sameAnswer(a, b api.Answer) bool {
	return a.Code == b.Code && a.N == b.N && a.Port == b.Port && a.Got.Src == b.Got.Src && a.Got.SPort == b.Got.SPort &&
		a.Got.Dst == b.Got.Dst && a.Got.DPort == b.Got.DPort && bytes.Equal(a.Got.Data, b.Got.Data)
}

func sameFlight(a, b []net.Way) bool {
	return slices.EqualFunc(a, b, func(x, y net.Way) bool { return x.Node == y.Node && bytes.Equal(x.Bytes, y.Bytes) })
}

func sameState(a, b net.State) bool {
	return slices.Equal(a.Sockets, b.Sockets) && slices.Equal(a.Queues, b.Queues) && slices.Equal(a.Keys, b.Keys) && a.Bytes == b.Bytes && slices.Equal(a.Paths, b.Paths)
}
