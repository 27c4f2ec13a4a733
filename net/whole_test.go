package net

import (
	"fmt"
	"slices"
	"testing"

	"mosaic/addr"
	"mosaic/api"
)

// The promises of the whole that a world of this layer can show: P3, P4, P5 and P7 of the document.

// row is two hosts with so many routers between them; the links' MTUs from host 0 to host 1.
func row(v int, mtus []int) Config {
	at := func(a, b byte) api.Addr {
		if v == 6 {
			return six(a, b)
		}
		return four(a, b)
	}
	bits := map[int]int{4: 24, 6: 48}[v]
	one := func(n, to byte, mtu int) api.HostConfig {
		h := plainHost(mtu, []api.Route{{Net: at(to, 0), Bits: bits}}, at(n, 1))
		h.Quota = api.Quota{Entries: 2, Bytes: 65535, Holes: 8192, Timeout: 1}
		h.Paths.Entries, h.Window, h.Queue = 1, 1, 1
		return h
	}
	last := len(mtus) - 1
	c := Config{Hosts: []api.HostConfig{one(0, 1, mtus[0]), one(1, 0, mtus[last])}}
	for i := range last {
		c.Hops = append(c.Hops, api.HopConfig{
			Addrs:  []api.Addr{at(byte(100+i), 1)},
			Links:  []int{mtus[i], mtus[i+1]},
			Routes: []api.Route{{Net: at(0, 0), Bits: bits, Link: 0}, {Net: at(1, 0), Bits: bits, Link: 1}},
		})
	}
	for i, mtu := range mtus {
		l := Link{A: 1 + i, LinkA: 1, B: 2 + i, LinkB: 0, MTU: mtu}
		if i == 0 {
			l.A, l.LinkA = 0, 0
		}
		if i == last {
			l.B = 1
		}
		c.Links = append(c.Links, l)
	}
	return c
}

// quiet lets all that is under way go on, in any order.
func quiet(t *testing.T, g *source, w *World) {
	t.Helper()
	for n := len(w.Flight()); n > 0; n = len(w.flight.ways) {
		forwards(t, w, g.below(n))
	}
}

// P4: what is quiet arrives, over rows of links.
func TestQuietArrives(t *testing.T) {
	t.Parallel()
	g := source(2410)
	delivered, tooBig := 0, 0
	for range 500 {
		v, df := pick(&g, 4, 6), g.once(2)
		var mtus []int
		for range 1 + g.below(15) {
			if v == 4 {
				mtus = append(mtus, pick(&g, 68, 76, 100, 296, 576, 1280, 1500, 68+g.below(2000), 65535))
			} else {
				mtus = append(mtus, pick(&g, 1280, 1281, 1287, 1288, 1400, 1500, 1280+g.below(3000), 65535))
			}
		}
		w := made(t, row(v, mtus))
		src, dst, head := four(0, 1), four(1, 1), 28
		if v == 6 {
			src, dst, head = six(0, 1), six(1, 1), 48
		}
		binds(t, w, 0, src, 1000, 1)
		binds(t, w, 1, dst, 7, 1)
		size := pick(&g, 0, 1, slices.Min(mtus)-head, slices.Min(mtus)-head+1, 1400, g.below(5000))
		if g.once(10) {
			size = pick(&g, 20000, 65507)
		}
		data := pattern(size)
		got, refused := 0, false
		for range len(mtus) + 1 {
			a := w.Do(api.Move{Kind: api.MvSend, Socket: 1, Addr: dst, Port: 7, Data: data, Flags: api.Flags{DF: df}})
			if a.Code == api.ErrBig && df && size+head > slices.Min(mtus) {
				refused = true
				continue
			}
			if a.Code != api.OK {
				t.Fatalf("P4: version %d, df %v, %d bytes over %v: %d", v, df, size, mtus, a.Code)
			}
			quiet(t, &g, w)
			b := w.Do(api.Move{Kind: api.MvRecv, Node: 1, Socket: 1})
			if b.Code == api.OK {
				if want := (api.Got{Src: src, SPort: 1000, Dst: dst, DPort: 7, Data: data}); !sameAnswer(b, api.Answer{Got: want}) {
					t.Fatalf("P4: %+v came", b.Got)
				}
				got++
			} else if v == 4 && !df {
				t.Fatalf("P4: version %d, %d bytes over %v did not come: %d", v, size, mtus, b.Code)
			}
			does(t, w, api.Move{Kind: api.MvRecv, Node: 1, Socket: 1}, api.ErrEmpty)
		}
		if got == 0 && !refused {
			t.Fatalf("P4: version %d, df %v, %d bytes over %v: none of %d came", v, df, size, mtus, len(mtus)+1)
		}
		delivered += got
		if refused {
			tooBig++
		}
		if w.Lost() != 0 {
			t.Fatal("there was no room")
		}
		w.Close()
	}
	if delivered < 1000 || tooBig < 80 {
		t.Errorf("only %d were delivered, %d refused", delivered, tooBig)
	}
}

// moveBut is a move of none of these kinds.
func (s *source) moveBut(m *model, kinds ...int) api.Move {
	for {
		if v := s.move(m); !slices.Contains(kinds, v.Kind) {
			return v
		}
	}
}

// learn is a move of a script in which hosts find out that a way is narrower than they believed.
func (s *source) learn(m *model) api.Move {
	if n := len(m.flight); n > 0 && (n > 20 || !s.once(4)) {
		return api.Move{Kind: api.MvForward, K: n - 1 - s.below(min(n, 3))}
	}
	n := len(m.hosts)
	from := s.below(n)
	to := byte((from + 1 + s.below(n-1)) % n)
	v := api.Move{Kind: api.MvSend, Node: from, Socket: 1, Addr: pick(s, four(to, 1), four(to, 2)), Port: 7, Flags: api.Flags{DF: true}}
	head := 28
	if s.once(3) {
		v.Socket, v.Addr, head = 2, six(to, 1), 48
	}
	most, _ := m.hosts[from].Estimate(v.Addr)
	v.Data = s.bytes(max(0, most-head))
	return v
}

// linkTo is the link of a node by which its routes lead to an address; below 0: there is none.
func linkTo(routes []api.Route, a api.Addr) int {
	for _, r := range routes {
		if addr.Within(a, r.Net, r.Bits) {
			return r.Link // no two nets of these worlds have an address in common
		}
	}
	return -1
}

// narrowest is the least MTU of the way from a host to an address; 0: routes do not lead there.
func (m *model) narrowest(n int, a api.Addr) int {
	least := 0
	for range m.nodes() {
		own, routes, mtus := m.about(n)
		if slices.Contains(own, a) {
			return least
		}
		link := linkTo(routes, a)
		if link < 0 {
			return 0
		}
		if least == 0 || mtus[link] < least {
			least = mtus[link]
		}
		n = m.far(n, link)
	}
	return 0
}

// about is a node's addresses, routes and MTUs.
func (m *model) about(n int) ([]api.Addr, []api.Route, []int) {
	if n < len(m.hosts) {
		h := m.c.Hosts[n]
		return h.Addrs, h.Routes, h.Links
	}
	h := m.c.Hops[n-len(m.hosts)]
	return h.Addrs, h.Routes, h.Links
}

// estimates are those of a host for all addresses of the world; 0: there is no way.
func estimates(w *World, m *model, n int) map[api.Addr]int {
	l := map[api.Addr]int{}
	for to := range m.nodes() {
		own, _, _ := m.about(to)
		for _, a := range own {
			l[a] = w.Do(api.Move{Kind: api.MvEstimate, Node: n, Addr: a}).N
		}
	}
	return l
}

// held is P3 of one host.
func held(t *testing.T, c api.HostConfig, s State) {
	t.Helper()
	if len(s.Keys) > c.Quota.Entries || s.Bytes > c.Quota.Bytes || len(s.Paths) > c.Paths.Entries || len(s.Sockets) > c.Sockets {
		t.Fatalf("P3: %+v with %+v", s, c)
	}
	for _, n := range s.Queues {
		if n > c.Queue {
			t.Fatalf("P3: a queue holds %d; at most %d", n, c.Queue)
		}
	}
}

// watch is a world whose hosts are looked at behind each move.
type watch struct {
	t      *testing.T
	w      *World
	m      *model
	honest bool                // nothing is spoilt or injected
	was    []map[api.Addr]int  // by host: what it believed of ways
	began  []map[api.Key]int64 // by host: the tick at which an entry came
	fell   int                 // how many estimates did
	rose   int
	pushed int
	sent   int // how many packets hosts emitted
	aged   int // how many entries grew to the last tick that they may have
}

func newWatch(t *testing.T, c Config, honest bool) *watch {
	t.Helper()
	x := &watch{t: t, w: made(t, c), m: newModel(t, c), honest: honest}
	for _, v := range x.m.begin() {
		x.m.do(v)
		x.w.Do(v)
	}
	for n := range c.Hosts {
		x.was = append(x.was, estimates(x.w, x.m, n))
		x.began = append(x.began, map[api.Key]int64{})
	}
	return x
}

// move makes one, and looks at all hosts.
func (x *watch) move(v api.Move) {
	x.t.Helper()
	at, stay := -1, len(x.m.flight)
	if v.Kind == api.MvForward && v.K >= 0 && v.K < stay {
		at, stay = x.m.flight[v.K].Node, stay-1
	}
	x.m.do(v)
	a := x.w.Do(v)
	for n := range x.was {
		s, _ := x.w.State(n)
		held(x.t, x.m.c.Hosts[n], s)
		x.ages(n, s.Keys)
		x.believes(n, at, v, s.Paths)
	}
	if a.Code == api.OK && (v.Kind == api.MvSend || v.Kind == api.MvTick || at >= 0 && at < len(x.was)) {
		x.fits(x.w.Flight()[stay:])
	}
}

// ages is P3 of the entries of a host: none is as old as the timeout.
func (x *watch) ages(n int, keys []api.Key) {
	x.t.Helper()
	is := map[api.Key]int64{}
	for _, k := range keys {
		from, was := x.began[n][k]
		if !was {
			from = x.w.Now()
		}
		is[k] = from
		age, timeout := x.w.Now()-from, x.m.c.Hosts[n].Quota.Timeout
		if age >= timeout {
			x.t.Fatalf("P3: host %d: the entry %+v is %d ticks old; the timeout is %d", n, k, age, timeout)
		}
		if was && age == timeout-1 {
			x.aged++
		}
	}
	x.began[n] = is
}

// believes is P5 of a host behind a move; at is the node that took a packet by it.
func (x *watch) believes(n, at int, v api.Move, paths []api.Addr) {
	x.t.Helper()
	is := estimates(x.w, x.m, n)
	for a, mtu := range is {
		between(x.t, x.m, n, a, mtu, x.honest)
		switch was := x.was[n][a]; {
		case mtu < was:
			if x.fell++; at != n {
				x.t.Fatalf("P5: host %d's estimate for %v falls by %+v", n, a, brief(v))
			}
		case mtu > was && v.Kind == api.MvTick:
			x.rose++
		case mtu > was:
			if x.pushed++; at != n || len(paths) != x.m.c.Hosts[n].Paths.Entries || slices.Contains(paths, a) {
				x.t.Fatalf("P5: host %d's estimate for %v rises by %+v", n, a, brief(v))
			}
		}
	}
	x.was[n] = is
}

// fits is P5 of what hosts emitted: none of it is longer than its host believes it may be.
func (x *watch) fits(l []Way) {
	x.t.Helper()
	for _, e := range l {
		p := taken(x.t, e.Bytes)
		n := slices.IndexFunc(x.m.c.Hosts, func(h api.HostConfig) bool { return slices.Contains(h.Addrs, p.Src) })
		if n < 0 {
			x.t.Fatalf("P5: a host emits a packet from %v", p.Src)
		}
		a := x.w.Do(api.Move{Kind: api.MvEstimate, Node: n, Addr: p.Dst})
		if a.Code != api.OK || len(e.Bytes) > a.N {
			x.t.Fatalf("P5: host %d emits a packet of %d bytes; the estimate is %d, %d", n, len(e.Bytes), a.N, a.Code)
		}
		x.sent++
	}
}

// P3, P5: what hosts hold, and what they believe of ways, in scripts of all kinds.
func TestWithinTheLimits(t *testing.T) {
	t.Parallel()
	g := source(2411)
	var all watch
	for i := range 200 {
		honest := i%2 == 0
		var but []int
		if honest {
			but = []int{api.MvSpoil, api.MvInject}
		}
		x := newWatch(t, g.config(manner{hosts: 2 + g.below(3), hops: 1 + g.below(4), true: true}), honest)
		for range 200 {
			if i%4 < 2 && !g.once(6) {
				x.move(g.learn(x.m))
			} else {
				x.move(g.moveBut(x.m, but...))
			}
		}
		x.w.Close()
		all.fell, all.rose, all.pushed = all.fell+x.fell, all.rose+x.rose, all.pushed+x.pushed
		all.sent, all.aged = all.sent+x.sent, all.aged+x.aged
	}
	if all.fell < 400 || all.rose < 100 || all.pushed < 100 || all.sent < 3000 || all.aged < 100 {
		t.Errorf("too few: %d fell, %d rose, %d were pushed out, %d packets, %d old entries", all.fell, all.rose, all.pushed, all.sent, all.aged)
	}
}

// between is P5 of one estimate.
func between(t *testing.T, m *model, n int, a api.Addr, is int, honest bool) {
	t.Helper()
	if is == 0 {
		return
	}
	_, routes, mtus := m.about(n)
	floor := 68
	if a.V == 6 {
		floor = 1280
	}
	if is < floor || is > mtus[linkTo(routes, a)] {
		t.Fatalf("P5: host %d's estimate for %v is %d; the first hop's MTU is %d", n, a, is, mtus[linkTo(routes, a)])
	}
	if least := m.narrowest(n, a); honest && is < least {
		t.Fatalf("P5: host %d's estimate for %v is %d; the way's least MTU %d", n, a, is, least)
	}
}

// tally is what was sent in a world, and not yet received.
type tally struct {
	t        *testing.T
	w        *World
	m        *model
	left     map[string]int
	bound    map[[2]int]sock // by host and socket
	received int
}

func newTally(t *testing.T, c Config) *tally {
	t.Helper()
	x := &tally{t: t, w: made(t, c), m: newModel(t, c), left: map[string]int{}, bound: map[[2]int]sock{}}
	for _, v := range x.m.begin() {
		x.move(v)
	}
	return x
}

// move makes one; what it sends or receives is noted.
func (x *tally) move(v api.Move) {
	x.t.Helper()
	x.m.do(v)
	a := x.w.Do(v)
	switch {
	case a.Code != api.OK:
	case v.Kind == api.MvBind:
		x.bound[[2]int{v.Node, a.N}] = sock{v.Addr, a.Port}
	case v.Kind == api.MvSend:
		s := x.bound[[2]int{v.Node, v.Socket}]
		x.left[fmt.Sprint(s.source(x.m.c.Hosts[v.Node].Addrs), s.port, v.Addr, v.Port, v.Data)]++
	case v.Kind == api.MvRecv:
		x.received++
		what := fmt.Sprint(a.Got.Src, a.Got.SPort, a.Got.Dst, a.Got.DPort, a.Got.Data)
		if x.left[what]--; x.left[what] < 0 {
			x.t.Fatalf("P7: %.200s was received oftener than sent", what)
		}
	}
}

// P7: what is received was sent so, and not oftener than it was sent.
func TestConservation(t *testing.T) {
	t.Parallel()
	g := source(2412)
	received := 0
	for range 300 {
		x := newTally(t, g.config(manner{hosts: 2 + g.below(3), hops: g.below(5), true: true}))
		for range 250 {
			v := g.moveBut(x.m, api.MvTwin, api.MvInject, api.MvSpoil, api.MvRecut)
			at := -1
			if v.Kind == api.MvForward && v.K >= 0 && v.K < len(x.m.flight) {
				at = x.m.flight[v.K].Node
			}
			x.move(v)
			if at >= 0 && at < len(x.m.hosts) && !g.once(4) { // queues are short
				for socket := 1; socket <= 3; socket++ {
					x.move(api.Move{Kind: api.MvRecv, Node: at, Socket: socket})
				}
			}
		}
		x.w.Close()
		received += x.received
	}
	if received < 1000 {
		t.Errorf("only %d were received", received)
	}
}

type sock struct {
	addr api.Addr
	port int
}

// source is the address that a socket sends from.
func (s sock) source(own []api.Addr) api.Addr {
	if s.addr != any4 && s.addr != any6 {
		return s.addr
	}
	var least api.Addr
	for _, a := range own {
		if a.V == s.addr.V && (least.V == 0 || addr.Less(a, least)) {
			least = a
		}
	}
	return least
}
