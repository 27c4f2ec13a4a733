package trace

import (
	"bytes"
	"fmt"
	"slices"
	"testing"

	"mosaic/addr"
	"mosaic/api"
	"mosaic/net"
)

// source is a plain generator, so that every run sees the same inputs.
type source uint64

func (s *source) next() uint64 {
	*s ^= *s << 13
	*s ^= *s >> 7
	*s ^= *s << 17
	return uint64(*s)
}

func (s *source) below(n int) int { return int((s.next() >> 11) % uint64(n)) }

// once in n times it says yes.
func (s *source) once(n int) bool { return s.below(n) == 0 }

func pick[T any](s *source, l ...T) T { return l[s.below(len(l))] }

func (s *source) bytes(n int) []byte {
	b := make([]byte, n)
	for i := range b {
		b[i] = byte(s.next() >> 20)
	}
	return b
}

// plan is how nodes are joined.
type plan struct {
	links []net.Link
	mtus  [][]int // by node, then by the link's number
}

func (p *plan) join(a, b, mtu int) {
	p.links = append(p.links, net.Link{A: a, LinkA: len(p.mtus[a]), B: b, LinkB: len(p.mtus[b]), MTU: mtu})
	p.mtus[a], p.mtus[b] = append(p.mtus[a], mtu), append(p.mtus[b], mtu)
}

// toward are, for each node, a link that leads nearer to a node; below 0: none does.
func (p *plan) toward(to int) []int {
	next, far := slices.Repeat([]int{-1}, len(p.mtus)), slices.Repeat([]int{len(p.mtus)}, len(p.mtus))
	far[to] = 0
	for range p.mtus {
		for _, l := range p.links {
			if far[l.B]+1 < far[l.A] {
				far[l.A], next[l.A] = far[l.B]+1, l.LinkA
			}
			if far[l.A]+1 < far[l.B] {
				far[l.B], next[l.B] = far[l.A]+1, l.LinkB
			}
		}
	}
	return next
}

// manner is what worlds are to be like.
type manner struct {
	hosts, hops int
	apart       bool // no two nodes have one address
	rivals      bool // the first two hosts have one address, and no other: they send with the same identifications
	honest      bool // nothing is spoilt or injected
}

func (s *source) manner() manner {
	x := manner{hosts: pick(s, 1, 2, 2, 3, 3, 4), hops: pick(s, 0, 1, 1, 2, 3), apart: s.once(2), honest: s.once(2)}
	if s.once(30) {
		x.hosts, x.hops = 0, 1+s.below(4)
	} else if s.once(2) {
		x = manner{hosts: 3, hops: pick(s, 0, 1, 2), rivals: true, honest: true}
	}
	return x
}

// plan joins all nodes in a tree; the routers stand in the middle, if there are any.
func (s *source) plan(x manner) *plan {
	nodes := x.hosts + x.hops
	p := &plan{mtus: make([][]int, nodes)}
	for i := 1; i < nodes; i++ {
		near := s.below(i)
		if x.hops > 0 {
			near = s.below(min(i, x.hops))
		}
		a, b := (x.hosts+near)%nodes, (x.hosts+i)%nodes
		mtu := pick(s, 68, 68, 76, 100, 296, 576, 1280, 1280, 1281, 1400, 1500, 65535)
		if x.rivals && min(a, b) < 2 && !s.once(3) {
			mtu = 1500 // what rivals send is cut on its way alone
		}
		p.join(a, b, mtu)
	}
	return p
}

func (s *source) addrs(n int, x manner) []api.Addr {
	if x.rivals && n < 2 {
		return []api.Addr{four(0, 1), six(0, 1)}
	}
	var l []api.Addr
	for _, a := range []api.Addr{four(byte(n), 1), six(byte(n), 1), four(byte(n), 2)} {
		if !s.once(12) {
			l = append(l, a)
		}
	}
	for range 2 {
		to := byte(s.below(x.hosts + x.hops))
		if a := pick(s, four(to, 1), six(to, 1)); !x.apart && s.once(2) && !slices.Contains(l, a) {
			l = append(l, a)
		}
	}
	if k := s.below(len(l) + 1); k > 0 {
		l[0], l[k-1] = l[k-1], l[0]
	}
	return l
}

func (s *source) routes(p *plan, n int) []api.Route {
	var l []api.Route
	for to := range p.mtus {
		link := p.toward(to)[n]
		if link < 0 || s.once(40) {
			continue
		}
		if s.once(40) {
			link = s.below(len(p.mtus[n]))
		}
		l = append(l, api.Route{Net: four(byte(to), 0), Bits: 24, Link: link})
		wide, _ := addr.Mask(six(byte(to), 0), 48)
		l = append(l, api.Route{Net: wide, Bits: 48, Link: link})
	}
	return l
}

func (s *source) config(x manner) net.Config {
	p := s.plan(x)
	c := net.Config{Links: p.links}
	for n := range p.mtus {
		own, routes := s.addrs(n, x), s.routes(p, n)
		if n >= x.hosts {
			c.Hops = append(c.Hops, api.HopConfig{Addrs: own, Links: p.mtus[n], Routes: routes})
			continue
		}
		c.Hosts = append(c.Hosts, api.HostConfig{
			Addrs:   own,
			Links:   p.mtus[n],
			Routes:  routes,
			Quota:   api.Quota{Entries: pick(s, 1, 2, 3, 8, 64), Bytes: pick(s, 100, 1000, 8000, 131072), Holes: pick(s, 1, 2, 16, 8192), Timeout: int64(1 + s.below(8))},
			Paths:   api.Paths{Entries: pick(s, 1, 2, 16), Age: int64(1 + s.below(12))},
			Window:  pick(s, 1, 4, 64),
			Queue:   pick(s, 1, 4, 16, 64),
			Bytes:   pick(s, 4000, 131072),
			Sockets: pick(s, 3, 4, 16),
			Life:    pick[int64](s, 0, 0, 3),
		})
	}
	return c
}

func (s *source) address(m *model) api.Addr {
	if s.once(20) {
		return pick(s, api.Addr{}, any4, any6, api.Addr{V: 4, B: [16]byte{224}}, four(200, 1), six(200, 1))
	}
	n := byte(s.below(m.nodes()))
	return pick(s, four(n, 1), four(n, 1), four(n, 2), six(n, 1), six(n, 1))
}

// host is most often one's number.
func (s *source) host(m *model) int {
	if len(m.c.Hosts) == 0 || s.once(60) {
		return pick(s, -1, m.nodes(), len(m.c.Hosts))
	}
	return s.below(len(m.c.Hosts))
}

// place is most often one of the flight.
func (s *source) place(m *model) int {
	n := len(m.numbers)
	if n == 0 || s.once(60) {
		return pick(s, -1, n, n+1)
	}
	if s.once(3) {
		return pick(s, 0, n-1)
	}
	return s.below(n)
}

func (s *source) send(m *model, x manner) api.Move {
	v := api.Move{Kind: api.MvSend, Node: s.host(m), Port: pick(s, 7, 7, 7, 7, 7, 7, 8, 8, 0), Socket: pick(s, 1, 2, 3, 0), Addr: s.address(m)}
	if x.rivals && s.once(2) { // to the third host, most often in pieces
		v.Node, v.Socket, v.Addr = s.below(2), 1, four(2, 1)
		if s.once(4) {
			v.Socket, v.Addr = 2, six(2, 1)
		}
	} else if n := m.nodes(); n > 1 && !s.once(8) { // what begin has bound, to another node
		to := byte((v.Node + 1 + s.below(n-1)) % n)
		v.Socket, v.Addr = 1, four(to, pick[byte](s, 1, 1, 1, 2))
		if s.once(3) {
			v.Socket, v.Addr = 2, six(to, 1)
		}
	}
	v.Data = s.bytes(pick(s, 0, 1, 20, 60, 100, 150, 200, 300, 600, 1200, 1400, 1500, 2600))
	if s.once(60) {
		v.Data = s.bytes(pick(s, 20000, 65507, 65528))
	}
	v.Flags.DF = s.once(5)
	v.Flags.NoSum = s.once(20)
	if s.once(6) {
		v.Flags.Opts = pick(s, []byte{1, 1, 1, 1}, []byte{0x94, 4, 0, 0}, longHead, longHead, []byte{9})
	}
	return v
}

func (s *source) inject(m *model) api.Move {
	v := api.Move{Kind: api.MvInject, Node: s.below(m.nodes())}
	l := m.w.Flight()
	switch k := s.below(10); {
	case k < 7 && len(l) > 0:
		x := pick(s, l...)
		v.Node, v.Data = pick(s, x.Node, x.Node, v.Node), x.Bytes
	case k == 7:
		v.Data = s.bytes(s.below(100))
	default:
		v.Node, v.Data = pick(s, -1, 0, m.nodes()), make([]byte, pick(s, 0, 65575, 65576))
	}
	return v
}

// atPlace is a move that names a packet under way.
func (s *source) atPlace(m *model, x manner) api.Move {
	v := api.Move{Kind: api.MvForward, K: s.place(m)}
	switch k := s.below(60); {
	case k < 4:
		v.Kind = api.MvDrop
	case k < 8:
		v.Kind = api.MvTwin
	case k < 12:
		v.Kind, v.J = api.MvSwap, s.place(m)
	case k < 17, k < 30 && x.rivals:
		v.Kind, v.J = api.MvRecut, pick(s, 67, 68, 76, 100, 300, 500, 1000, 65536)
	case k < 20 && !x.honest:
		v.Kind, v.J, v.Mask = api.MvSpoil, pick(s, s.below(20), s.below(60), s.below(2000), -1), pick(s, 1, 64, 255, 1+s.below(255), 0, 256)
	}
	return v
}

// move is one of a script; a flight that is long is let to grow no more.
func (s *source) move(m *model, x manner) api.Move {
	k := s.below(100)
	if n := len(m.numbers); n > 80 && k < 90 {
		return api.Move{Kind: pick(s, api.MvForward, api.MvDrop, api.MvDrop), K: s.place(m)}
	} else if n == 0 && !s.once(4) {
		return s.send(m, x)
	}
	switch {
	case k < 5:
		a := pick(s, any4, any6, s.address(m))
		return api.Move{Kind: api.MvBind, Node: s.host(m), Addr: a, Port: pick(s, 7, 7, 0, 8, 65536)}
	case k < 6:
		return api.Move{Kind: api.MvShut, Node: s.host(m), Socket: pick(s, 0, 3, 3, 4, 4, 5, 1+s.below(2))}
	case k < 22:
		return s.send(m, x)
	case k < 28:
		return api.Move{Kind: api.MvRecv, Node: s.host(m), Socket: pick(s, 1, 1, 2, 3, 0)}
	case k < 30:
		return api.Move{Kind: api.MvEstimate, Node: s.host(m), Addr: s.address(m)}
	case k < 34 && !x.honest:
		return s.inject(m)
	case k < 40:
		return api.Move{Kind: api.MvTick}
	case k < 41:
		return api.Move{Kind: pick(s, -1, 0, 14, 99), K: s.place(m)}
	}
	return s.atPlace(m, x)
}

// begin are the moves by which a world's sockets are bound.
func (m *model) begin() []api.Move {
	var l []api.Move
	for n := range m.c.Hosts {
		l = append(l, api.Move{Kind: api.MvBind, Node: n, Addr: any4, Port: 7}, api.Move{Kind: api.MvBind, Node: n, Addr: any6, Port: 7})
	}
	return l
}

// subject is a world with its model, which make the same moves.
type subject struct {
	t    *testing.T
	w    *World
	m    *model
	seen map[string]int
	// rough: what is handed in has room behind it and is written over behind the call, as are the answers.
	rough bool
}

func newSubject(t *testing.T, c net.Config, seen map[string]int) *subject {
	t.Helper()
	return &subject{t: t, w: made(t, c), m: newModel(t, c), seen: seen}
}

// do makes a move, and holds its answer against the model's.
func (x *subject) do(v api.Move) api.Answer {
	x.t.Helper()
	was := x.m.unclear
	want := x.m.do(v)
	if x.m.unclear && !was {
		x.seen[fmt.Sprint("unclear by ", v.Kind)]++
		if !x.m.clash(x.m.w.Flight(), nil) {
			x.seen["unclear by what is held"]++
		}
	}
	h := v
	h.Data, h.Flags.Opts = x.in(v.Data), x.in(v.Flags.Opts)
	got := x.w.Do(h)
	if !sameAnswer(got, want) {
		x.t.Fatalf("P25.2: Do(%+v) = %+v; want %+v", brief(v), got, want)
	}
	x.over(h.Data, v.Data)
	x.over(h.Flags.Opts, v.Flags.Opts)
	if x.rough {
		want.Got.Data = bytes.Clone(want.Got.Data)
		scribble(got.Got.Data)
	}
	x.seen[fmt.Sprint(v.Kind, " ", want.Code)]++
	return want
}

// tells holds all that may be asked against the model.
func (x *subject) tells() {
	x.t.Helper()
	l := x.w.Flight()
	if want := x.m.w.Flight(); !sameFlight(l, want) || !sameFlight(x.w.Net().Flight(), want) {
		x.t.Fatalf("P25.2: Flight() = %v; want %v", l, want)
	}
	if x.w.Lost() != x.m.w.Lost() || x.w.Now() != x.m.w.Now() {
		x.t.Fatalf("P25.2: %d lost, tick %d; want %d, %d", x.w.Lost(), x.w.Now(), x.m.w.Lost(), x.m.w.Now())
	}
	for n := -1; n <= x.m.nodes(); n++ {
		s, e := x.w.State(n)
		if want, e2 := x.m.w.State(n); e != e2 || !sameState(s, want) {
			x.t.Fatalf("P25.2: State(%d) = %+v, %d; want %+v, %d", n, s, e, want, e2)
		}
	}
	if got := numbers(x.w); !slices.Equal(got, x.m.numbers) || x.w.Of(-1) != 0 || x.w.Of(len(got)) != 0 {
		x.t.Fatalf("P25.1: the numbers are %v; want %v", got, x.m.numbers)
	}
	if x.w.Clear() == x.m.unclear {
		x.t.Fatalf("P25.1: Clear() = %v", x.w.Clear())
	}
	sends := x.w.Sends()
	if !sameSends(sends, x.m.sends) {
		x.t.Fatalf("P25.1: Sends() = %v; want %v", sends, x.m.sends)
	}
	if x.rough {
		scribbleFlight(l)
		scribbleSends(sends)
	}
}

// run makes so many moves, and asks behind each of them.
func (x *subject) run(s *source, y manner, moves int) {
	x.t.Helper()
	for _, v := range x.m.begin() {
		x.do(v)
	}
	for range moves {
		x.do(s.move(x.m, y))
		x.tells()
	}
	x.w.Close()
	x.tells()
	x.m.w.Close()
	if x.m.unclear {
		x.seen["unclear"]++
	} else {
		x.seen["clear"]++
	}
}

// P25.1, P25.2: worlds of all kinds answer as their models, one move behind the other.
func TestModel(t *testing.T) {
	t.Parallel()
	g := source(2501)
	seen := map[string]int{}
	for range 700 {
		y := g.manner()
		newSubject(t, g.config(y), seen).run(&g, y, 160)
	}
	for kind := api.MvBind; kind <= api.MvTick; kind++ {
		if n := seen[fmt.Sprint(kind, " ", api.OK)]; n < 200 {
			t.Errorf("only %d moves of kind %d were accepted", n, kind)
		}
	}
	for what, least := range map[string]int{"clear": 100, "unclear": 100, "unclear by 3": 10, "unclear by 6": 10, "unclear by 10": 10, "unclear by 11": 50, "unclear by 12": 10, "unclear by what is held": 2} {
		if seen[what] < least {
			t.Errorf("too few are %s: %d", what, seen[what])
		}
	}
}

// P25.1, P25.2: where the flight is full or nearly so, worlds answer as their models too.
func TestModelNearlyFull(t *testing.T) {
	t.Parallel()
	g := source(2502)
	for range 4 {
		y := manner{hosts: 3, hops: 2}
		x := newSubject(t, g.config(y), map[string]int{})
		for _, v := range x.m.begin() {
			x.do(v)
		}
		for range 20 {
			x.do(g.send(x.m, y))
		}
		for i := range 16384 - 10 - len(x.m.numbers) {
			v := api.Move{Kind: api.MvInject, Node: i % 5, Data: []byte{byte(i), byte(i >> 8)}}
			x.w.Do(v)
			x.m.w.Do(v)
			x.m.numbers = append(x.m.numbers, x.m.next())
		}
		for i := range 200 {
			x.do(g.fullMove(x.m, y))
			if i%10 == 0 {
				x.tells()
			}
		}
		x.tells()
		if n := x.w.Lost(); n < 40 {
			t.Errorf("only %d were lost", n)
		}
	}
}

// fullMove is a move of a script in which the flight stays full.
func (s *source) fullMove(m *model, x manner) api.Move {
	near := pick(s, s.below(60), len(m.numbers)-1-s.below(60))
	switch s.below(9) {
	case 0, 1:
		return s.send(m, x)
	case 2, 3:
		return api.Move{Kind: api.MvForward, K: near}
	case 4:
		return api.Move{Kind: api.MvTwin, K: near}
	case 5:
		return api.Move{Kind: api.MvRecut, K: near, J: pick(s, 68, 100, 300, 65535)}
	case 6:
		return api.Move{Kind: pick(s, api.MvDrop, api.MvTick), K: near}
	case 7:
		return api.Move{Kind: api.MvSpoil, K: near, J: s.below(2), Mask: 1}
	}
	return s.inject(m)
}
