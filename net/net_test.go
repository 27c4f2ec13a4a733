package net

import (
	"bytes"
	"math"
	"slices"
	"testing"

	"mosaic/api"
	"mosaic/ip4"
	"mosaic/ip6"
)

// four is 10.0.a.b, six 2001:db8:a::b.
func four(a, b byte) api.Addr { return api.Addr{V: 4, B: [16]byte{10, 0, a, b}} }

func six(a, b byte) api.Addr {
	return api.Addr{V: 6, B: [16]byte{0x20, 0x01, 0x0d, 0xb8, 0, a, 15: b}}
}

var (
	any4 = api.Addr{V: 4}
	any6 = api.Addr{V: 6}
)

// plainHost is a host as a world's text has it, if that says no more than its addresses and routes.
func plainHost(mtu int, routes []api.Route, addrs ...api.Addr) api.HostConfig {
	return api.HostConfig{
		Addrs:   addrs,
		Links:   []int{mtu},
		Routes:  routes,
		Quota:   api.Quota{Entries: 16, Bytes: 131072, Holes: 8192, Timeout: 60},
		Paths:   api.Paths{Entries: 16, Age: 600},
		Window:  16,
		Queue:   16,
		Bytes:   131072,
		Sockets: 16,
	}
}

// config is the world of the document's ten examples.
func config() Config {
	all := func() []api.Route { return []api.Route{{Net: api.Addr{V: 4, B: [16]byte{10}}, Bits: 8}} }
	return Config{
		Hosts: []api.HostConfig{plainHost(1500, all(), four(0, 1)), plainHost(576, all(), four(1, 1))},
		Hops: []api.HopConfig{{
			Addrs:  []api.Addr{four(0, 9)},
			Links:  []int{1500, 576},
			Routes: []api.Route{{Net: four(0, 0), Bits: 24, Link: 0}, {Net: four(1, 0), Bits: 24, Link: 1}},
		}},
		Links: []Link{{A: 0, LinkA: 0, B: 2, LinkB: 0, MTU: 1500}, {A: 1, LinkA: 0, B: 2, LinkB: 1, MTU: 576}},
	}
}

// made is a world that is closed at the end of the test.
func made(t *testing.T, c Config) *World {
	t.Helper()
	w, e := New(c)
	if w == nil || e != api.OK {
		t.Fatalf("P24.1: New(%+v) = %v, %d", c, w, e)
	}
	t.Cleanup(w.Close)
	return w
}

func refusedConfig(t *testing.T, what string, c Config) {
	t.Helper()
	if w, e := New(c); w != nil || e != api.ErrArg {
		t.Errorf("P24.1: New with %s = %v, %d", what, w, e)
	}
}

// brief is a move as a failure tells it: of long data just the beginning.
func brief(m api.Move) api.Move {
	m.Data = m.Data[:min(len(m.Data), 8)]
	return m
}

// does makes a move that must be answered with this code.
func does(t *testing.T, w *World, m api.Move, code api.Errno) api.Answer {
	t.Helper()
	a := w.Do(m)
	if a.Code != code {
		t.Fatalf("P24.3: Do(%+v) = %d; want %d", brief(m), a.Code, code)
	}
	if code != api.OK && !sameAnswer(a, api.Answer{Code: code}) {
		t.Fatalf("P24.3: Do(%+v) = %+v: more than its code", brief(m), a)
	}
	return a
}

func binds(t *testing.T, w *World, node int, a api.Addr, port, socket int) {
	t.Helper()
	if got := does(t, w, api.Move{Kind: api.MvBind, Node: node, Addr: a, Port: port}, api.OK); !sameAnswer(got, api.Answer{N: socket, Port: port}) {
		t.Fatalf("P24.3: bind at %d: %+v", node, got)
	}
}

func sends(t *testing.T, w *World, dst api.Addr, port, n int, f api.Flags) {
	t.Helper()
	got := does(t, w, api.Move{Kind: api.MvSend, Node: 0, Socket: 1, Addr: dst, Port: port, Data: pattern(n), Flags: f}, api.OK)
	if !sameAnswer(got, api.Answer{}) {
		t.Fatalf("P24.3: send: %+v", got)
	}
}

func forwards(t *testing.T, w *World, places ...int) {
	t.Helper()
	for _, k := range places {
		if got := does(t, w, api.Move{Kind: api.MvForward, K: k}, api.OK); !sameAnswer(got, api.Answer{}) {
			t.Fatalf("P24.3: forward: %+v", got)
		}
	}
}

// receives: what the socket gets is what sends sent, from host 0's first socket to host 1's.
func receives(t *testing.T, w *World, socket, n int) {
	t.Helper()
	got := does(t, w, api.Move{Kind: api.MvRecv, Node: 1, Socket: socket}, api.OK)
	if want := (api.Answer{Got: api.Got{Src: four(0, 1), SPort: 1000, Dst: four(1, 1), DPort: 7, Data: pattern(n)}}); !sameAnswer(got, want) {
		t.Fatalf("P24.3: recv: %+v; want %+v", got, want)
	}
}

// ways are the packets under way: to which node, and how long.
func ways(t *testing.T, w *World, want ...[2]int) {
	t.Helper()
	var got [][2]int
	for _, x := range w.Flight() {
		got = append(got, [2]int{x.Node, len(x.Bytes)})
	}
	if !slices.Equal(got, want) {
		t.Fatalf("P24.4: under way are %v; want %v", got, want)
	}
}

// packetAt is the packet at a place of the flight.
func packetAt(t *testing.T, w *World, k int) api.Packet {
	t.Helper()
	return taken(t, w.Flight()[k].Bytes)
}

func taken(t *testing.T, b []byte) api.Packet {
	t.Helper()
	p, e := ip4.Parse(b)
	if e != api.OK {
		p, e = ip6.Parse(b)
	}
	if e != api.OK {
		t.Fatalf("%x is no packet", b)
	}
	return p
}

func pattern(n int) []byte {
	b := make([]byte, n)
	for i := range b {
		b[i] = byte(i % 251)
	}
	return b
}

func sameAnswer(a, b api.Answer) bool {
	return a.Code == b.Code && a.N == b.N && a.Port == b.Port && a.Got.Src == b.Got.Src && a.Got.SPort == b.Got.SPort &&
		a.Got.Dst == b.Got.Dst && a.Got.DPort == b.Got.DPort && bytes.Equal(a.Got.Data, b.Got.Data)
}

func sameWay(a, b Way) bool { return a.Node == b.Node && bytes.Equal(a.Bytes, b.Bytes) }

func sameFlight(a, b []Way) bool { return slices.EqualFunc(a, b, sameWay) }

func sameState(a, b State) bool {
	return slices.Equal(a.Sockets, b.Sockets) && slices.Equal(a.Queues, b.Queues) && slices.Equal(a.Keys, b.Keys) && a.Bytes == b.Bytes && slices.Equal(a.Paths, b.Paths)
}

// begun is the examples' world behind its binds.
func begun(t *testing.T) *World {
	t.Helper()
	w := made(t, config())
	binds(t, w, 0, four(0, 1), 1000, 1)
	binds(t, w, 1, any4, 7, 1)
	does(t, w, api.Move{Kind: api.MvBind, Node: 1, Addr: any4, Port: 7}, api.ErrInUse)
	binds(t, w, 1, four(1, 1), 7, 2)
	return w
}

// P24.1: a new world.
func TestNew(t *testing.T) {
	w := made(t, config())
	ways(t, w)
	if w.Lost() != 0 || w.Now() != 0 {
		t.Errorf("P24.1: %d are lost, the tick is %d", w.Lost(), w.Now())
	}
	for n := range 2 {
		if s, e := w.State(n); e != api.OK || !sameState(s, State{}) {
			t.Errorf("P24.1: State(%d) = %+v, %d", n, s, e)
		}
	}
}

// The examples of the document, in their order.
func TestExamples(t *testing.T) {
	w := begun(t)
	sends(t, w, four(1, 1), 7, 2, api.Flags{})
	ways(t, w, [2]int{2, 30})
	if p := packetAt(t, w, 0); p.Src != four(0, 1) || p.Dst != four(1, 1) || p.Proto != 17 || p.TTL != 64 || p.ID != 0 || len(p.Data) != 10 {
		t.Errorf("P24.3: the packet sent is %+v", p)
	}
	forwards(t, w, 0)
	ways(t, w, [2]int{1, 30})
	if p := packetAt(t, w, 0); p.TTL != 63 || p.ID != 0 {
		t.Errorf("P24.3: the packet sent on is %+v", p)
	}
	forwards(t, w, 0)
	ways(t, w)
	receives(t, w, 2, 2)
	does(t, w, api.Move{Kind: api.MvRecv, Node: 1, Socket: 1}, api.ErrEmpty)

	sends(t, w, four(1, 1), 7, 1400, api.Flags{})
	ways(t, w, [2]int{2, 1428})
	forwards(t, w, 0)
	ways(t, w, [2]int{1, 572}, [2]int{1, 572}, [2]int{1, 324})
	for k, want := range []api.Packet{{Off: 0, More: true}, {Off: 552, More: true}, {Off: 1104}} {
		if p := packetAt(t, w, k); p.Off != want.Off || p.More != want.More {
			t.Errorf("P24.3: piece %d is %+v", k, p)
		}
	}
	forwards(t, w, 2, 1, 0)
	receives(t, w, 2, 1400)

	big := api.Move{Kind: api.MvSend, Socket: 1, Addr: four(1, 1), Port: 7, Data: pattern(1400), Flags: api.Flags{DF: true}}
	does(t, w, big, api.OK)
	forwards(t, w, 0)
	ways(t, w, [2]int{0, 56})
	if p := packetAt(t, w, 0); p.Src != four(0, 9) || p.Dst != four(0, 1) || p.Proto != 1 || p.TTL != 64 || p.ID != 0 {
		t.Errorf("P24.3: the message is %+v", p)
	}
	forwards(t, w, 0)
	if a := does(t, w, api.Move{Kind: api.MvEstimate, Addr: four(1, 1)}, api.OK); !sameAnswer(a, api.Answer{N: 576}) {
		t.Errorf("P24.3: the estimate is %+v", a)
	}
	does(t, w, big, api.ErrBig)
	ways(t, w)
	sends(t, w, four(1, 1), 7, 1400, api.Flags{})
	ways(t, w, [2]int{2, 572}, [2]int{2, 572}, [2]int{2, 324})
}

// The sixth example: a datagram of which a piece is missing.
func TestLateExample(t *testing.T) {
	for missing, message := range []bool{false, true, true} {
		w := begun(t)
		sends(t, w, four(1, 1), 7, 1400, api.Flags{})
		forwards(t, w, 0)
		does(t, w, api.Move{Kind: api.MvDrop, K: missing}, api.OK)
		forwards(t, w, 0, 0)
		does(t, w, api.Move{Kind: api.MvRecv, Node: 1, Socket: 2}, api.ErrEmpty)
		s, e := w.State(1)
		if key := (api.Key{V: 4, Src: four(0, 1), Dst: four(1, 1), Proto: 17}); e != api.OK || !slices.Equal(s.Keys, []api.Key{key}) {
			t.Errorf("P24.4: State(1) = %+v, %d", s, e)
		}
		for range 59 {
			does(t, w, api.Move{Kind: api.MvTick}, api.OK)
		}
		ways(t, w)
		does(t, w, api.Move{Kind: api.MvTick}, api.OK)
		if s, _ := w.State(1); len(s.Keys) != 0 || s.Bytes != 0 || w.Now() != 60 {
			t.Errorf("P24.4: at tick %d: %+v", w.Now(), s)
		}
		if !message {
			ways(t, w)
			continue
		}
		ways(t, w, [2]int{2, 56})
		if p := packetAt(t, w, 0); p.Src != four(1, 1) || p.Dst != four(0, 1) || p.Data[0] != 11 || p.Data[1] != 1 {
			t.Errorf("P24.3: the message is %+v", p)
		}
	}
}

// The seventh example and on, and the chapter's own.
func TestFurtherExamples(t *testing.T) {
	w := begun(t)
	sends(t, w, four(1, 2), 7, 1, api.Flags{})
	forwards(t, w, 0)
	ways(t, w, [2]int{1, 29})
	forwards(t, w, 0)
	ways(t, w)

	sends(t, w, four(1, 1), 9, 1, api.Flags{})
	forwards(t, w, 0, 0)
	ways(t, w, [2]int{2, 56})
	if p := packetAt(t, w, 0); p.Data[0] != 3 || p.Data[1] != 3 {
		t.Errorf("P24.3: the message is %+v", p)
	}
	forwards(t, w, 0, 0)
	ways(t, w)

	sends(t, w, four(1, 1), 7, 2, api.Flags{})
	does(t, w, api.Move{Kind: api.MvTwin}, api.OK)
	forwards(t, w, 0, 0, 0, 0)
	receives(t, w, 2, 2)
	receives(t, w, 2, 2)
	does(t, w, api.Move{Kind: api.MvRecv, Node: 1, Socket: 2}, api.ErrEmpty)

	does(t, w, api.Move{Kind: api.MvInject, Node: 1, Data: []byte{0}}, api.OK)
	ways(t, w, [2]int{1, 1})
	forwards(t, w, 0)
	ways(t, w)

	does(t, w, api.Move{Kind: 99}, api.ErrArg)
	does(t, w, api.Move{Kind: api.MvForward}, api.ErrNode)
	does(t, w, api.Move{Kind: api.MvRecv, Node: 2}, api.ErrNode)
	does(t, w, api.Move{Kind: api.MvInject, Node: 1, Data: []byte{0x45, 0}}, api.OK)
	does(t, w, api.Move{Kind: api.MvSpoil, J: 1, Mask: 255}, api.OK)
	if l := w.Flight(); len(l) != 1 || l[0].Node != 1 || !bytes.Equal(l[0].Bytes, []byte{0x45, 0xff}) {
		t.Errorf("P24.3: %v is under way", l)
	}
	does(t, w, api.Move{Kind: api.MvSpoil, J: 2, Mask: 1}, api.ErrArg)
	does(t, w, api.Move{Kind: api.MvSpoil}, api.ErrArg)
	does(t, w, api.Move{Kind: api.MvRecut, J: 68}, api.ErrArg)
}

// P24.1: as many nodes as there may be, and one too many; none.
func TestHowManyNodes(t *testing.T) {
	lonely := plainHost(0, nil)
	lonely.Links = nil
	for hosts := range 19 {
		for hops := range 19 {
			c := Config{Hosts: slices.Repeat([]api.HostConfig{lonely}, hosts), Hops: make([]api.HopConfig, hops)}
			if n := hosts + hops; n < 1 || n > 16 {
				refusedConfig(t, "no node, or more than 16", c)
				continue
			}
			w := made(t, c)
			_, e := w.State(hosts - 1)
			_, f := w.State(hosts)
			if hosts > 0 && e != api.OK || hosts == 0 && e != api.ErrNode || f != api.ErrNode {
				t.Errorf("P24.4: %d hosts, %d routers: State is answered %d, %d", hosts, hops, e, f)
			}
			does(t, w, api.Move{Kind: api.MvInject, Node: hosts + hops - 1}, api.OK)
			does(t, w, api.Move{Kind: api.MvInject, Node: hosts + hops}, api.ErrNode)
			forwards(t, w, 0)
			does(t, w, api.Move{Kind: api.MvTick}, api.OK)
			w.Close()
		}
	}
}

// P24.1: each reason by itself, from a configuration that is taken.
func TestRefusedConfigs(t *testing.T) {
	for what, change := range map[string]func(c *Config){
		"an unlike MTU at A":         func(c *Config) { c.Hosts[0].Links[0] = 1400 },
		"an unlike MTU at B":         func(c *Config) { c.Hops[0].Links[0] = 1400 },
		"an unlike MTU of the link":  func(c *Config) { c.Links[0].MTU = 1400 },
		"an MTU below 68 everywhere": func(c *Config) { c.Hosts[0].Links[0], c.Hops[0].Links[0], c.Links[0].MTU = 67, 67, 67 },
		"a host that is refused":     func(c *Config) { c.Hosts[1].Quota.Entries = 0 },
		"a host's route":             func(c *Config) { c.Hosts[1].Routes[0].Link = 1 },
		"a router that is refused":   func(c *Config) { c.Hops[0].Addrs[0] = any4 },
		"a router's route":           func(c *Config) { c.Hops[0].Routes[1].Link = 2 },
		"no link":                    func(c *Config) { c.Links = nil },
		"a link too few":             func(c *Config) { c.Links = c.Links[:1] },
		"the first link missing":     func(c *Config) { c.Links = c.Links[1:] },
		"a link twice":               func(c *Config) { c.Links = append(c.Links, c.Links[0]) },
		"a link twice, turned": func(c *Config) {
			c.Links = append(c.Links, Link{A: 2, LinkA: 1, B: 1, LinkB: 0, MTU: 576})
		},
		"a link number in no link": func(c *Config) { c.Hosts[0].Links = append(c.Hosts[0].Links, 1500) },
		"a router's in no link":    func(c *Config) { c.Hops[0].Links = append(c.Hops[0].Links, 576) },
		"a number in two links": func(c *Config) {
			c.Hops[0].Links[1] = 1500
			c.Hosts[1].Links[0] = 1500
			c.Links[1] = Link{A: 1, LinkA: 0, B: 2, LinkB: 0, MTU: 1500}
		},
		"one number of A in two": func(c *Config) {
			c.Hops[0].Links = []int{1500, 1500}
			c.Links[1] = Link{A: 0, LinkA: 0, B: 2, LinkB: 1, MTU: 1500}
			c.Hosts[1].Links, c.Hosts[1].Routes = nil, nil
		},
		"one number of B in two": func(c *Config) {
			c.Hops[0].Links, c.Hops[0].Routes = []int{1500}, nil
			c.Hosts[1].Links[0] = 1500
			c.Links[1] = Link{A: 1, LinkA: 0, B: 2, LinkB: 0, MTU: 1500}
		},
		"a node with itself": func(c *Config) {
			c.Hops[0].Links = []int{1500, 576, 1280, 1280}
			c.Links = append(c.Links, Link{A: 2, LinkA: 2, B: 2, LinkB: 3, MTU: 1280})
		},
		"a node's number with itself": func(c *Config) {
			c.Hops[0].Links = []int{1500, 576, 1280}
			c.Links = append(c.Links, Link{A: 2, LinkA: 2, B: 2, LinkB: 2, MTU: 1280})
		},
	} {
		c := config()
		change(&c)
		refusedConfig(t, what, c)
	}
	for _, n := range []int{math.MinInt, -1, 2, 3, 16, math.MaxInt} {
		for field := range 4 {
			c := config()
			if field < 2 && n == 2 {
				continue
			}
			*[]*int{&c.Links[0].A, &c.Links[0].B, &c.Links[0].LinkA, &c.Links[0].LinkB}[field] = n
			refusedConfig(t, "a wild number", c)
		}
	}
	for _, mtu := range []int{math.MinInt, -1, 0, 1499, 1501, 65536, math.MaxInt} {
		c := config()
		c.Links[0].MTU = mtu
		refusedConfig(t, "a wild MTU", c)
	}
}

// P24.1: what may be: several links between two nodes, links turned and in any order, no link at all.
func TestTakenConfigs(t *testing.T) {
	c := config()
	c.Links[0], c.Links[1] = Link{A: 2, LinkA: 1, B: 1, LinkB: 0, MTU: 576}, Link{A: 2, LinkA: 0, B: 0, LinkB: 0, MTU: 1500}
	w := made(t, c)
	binds(t, w, 0, four(0, 1), 1000, 1)
	binds(t, w, 1, any4, 7, 1)
	sends(t, w, four(1, 1), 7, 20, api.Flags{})
	forwards(t, w, 0, 0)
	receives(t, w, 1, 20)

	twice := func(a, b byte) api.HostConfig {
		h := plainHost(1500, []api.Route{{Net: four(b, 0), Bits: 24, Link: 1}, {Net: four(3, 0), Bits: 24, Link: 0}}, four(a, 1))
		h.Links = []int{1500, 1280}
		return h
	}
	w = made(t, Config{
		Hosts: []api.HostConfig{twice(0, 1), twice(1, 0)},
		Links: []Link{{A: 0, LinkA: 1, B: 1, LinkB: 1, MTU: 1280}, {A: 1, LinkA: 0, B: 0, LinkB: 0, MTU: 1500}},
	})
	binds(t, w, 0, four(0, 1), 1000, 1)
	sends(t, w, four(3, 1), 7, 1472, api.Flags{})
	sends(t, w, four(1, 1), 7, 1472, api.Flags{})
	ways(t, w, [2]int{1, 1500}, [2]int{1, 1276}, [2]int{1, 244})
}

// Each of a node's links leads to the node at its other end, whatever their order.
func TestEachLinkLeadsOn(t *testing.T) {
	const n = 15
	var c Config
	star := plainHost(0, nil, four(99, 1))
	star.Links = make([]int, n)
	for i := range n {
		star.Links[i] = 1000 + i
		c.Hops = append(c.Hops, api.HopConfig{Links: []int{1000 + i}})
		star.Routes = append(star.Routes, api.Route{Net: four(byte(i), 0), Bits: 24, Link: i})
		at := (i*7 + 3) % n
		l := Link{A: 0, LinkA: i, B: 1 + at, LinkB: 0, MTU: 1000 + i}
		if i%2 == 0 {
			l = Link{A: l.B, LinkA: l.LinkB, B: l.A, LinkB: l.LinkA, MTU: l.MTU}
		}
		c.Links = append(c.Links, l)
	}
	for i := range n {
		c.Hops[(i*7+3)%n].Links[0] = 1000 + i
	}
	c.Hosts = []api.HostConfig{star}
	w := made(t, c)
	binds(t, w, 0, any4, 1000, 1)
	for i := range n {
		sends(t, w, four(byte(i), 1), 7, 0, api.Flags{})
		if l := w.Flight(); l[len(l)-1].Node != 1+(i*7+3)%n {
			t.Errorf("P24.6: over link %d it goes to %d", i, l[len(l)-1].Node)
		}
	}
}
