package net

import (
	"bytes"
	"fmt"
	"slices"
	"testing"

	"mosaic/addr"
	"mosaic/api"
	"mosaic/icmp"
	"mosaic/ip4"
	"mosaic/ip6"
)

// source is a plain generator, so that every run sees the same inputs.
type source uint64

func (s *source) next() uint64 {
	*s ^= *s << 13
	*s ^= *s >> 7
	*s ^= *s << 17
	return uint64(*s)
}

func (s *source) below(n int) int { return int((s.next() >> 11) % uint64(n)) }

// once in n times it says yes.
func (s *source) once(n int) bool { return s.below(n) == 0 }

func pick[T any](s *source, l ...T) T { return l[s.below(len(l))] }

func (s *source) bytes(n int) []byte {
	b := make([]byte, n)
	for i := range b {
		b[i] = byte(s.next() >> 20)
	}
	return b
}

// plan is how nodes are joined.
type plan struct {
	links []Link
	mtus  [][]int // by node, then by the link's number
}

func (p *plan) join(a, b, mtu int) {
	if len(p.mtus[a]) == 16 || len(p.mtus[b]) == 16 {
		return
	}
	p.links = append(p.links, Link{A: a, LinkA: len(p.mtus[a]), B: b, LinkB: len(p.mtus[b]), MTU: mtu})
	p.mtus[a], p.mtus[b] = append(p.mtus[a], mtu), append(p.mtus[b], mtu)
}

// toward are, for each node, a link that leads nearer to a node; below 0: none does.
func (p *plan) toward(to int) []int {
	next, far := slices.Repeat([]int{-1}, len(p.mtus)), slices.Repeat([]int{len(p.mtus)}, len(p.mtus))
	far[to] = 0
	for range p.mtus {
		for _, l := range p.links {
			if far[l.B]+1 < far[l.A] {
				far[l.A], next[l.A] = far[l.B]+1, l.LinkA
			}
			if far[l.A]+1 < far[l.B] {
				far[l.B], next[l.B] = far[l.A]+1, l.LinkB
			}
		}
	}
	return next
}

func (s *source) mtu() int {
	return pick(s, 68, 76, 100, 296, 576, 576, 1280, 1280, 1281, 1400, 1500, 1500, 1500, 9000, 65535)
}

// plan joins most nodes, and some twice; the routers stand in the middle, if there are any, and most hosts hang on one.
func (s *source) plan(x manner) *plan {
	nodes := x.hosts + x.hops
	p := &plan{mtus: make([][]int, nodes)}
	for i := 1; i < nodes; i++ {
		near := s.below(i)
		if x.hops > 0 && !s.once(5) {
			near = s.below(min(i, x.hops))
		}
		if !s.once(20) {
			p.join((x.hosts+near)%nodes, (x.hosts+i)%nodes, s.mtu())
		}
	}
	for range s.below(nodes) / 2 {
		if a, b := s.below(nodes), s.below(nodes); a != b {
			p.join(a, b, s.mtu())
		}
	}
	for i := range p.links {
		if l := p.links[i]; s.once(2) {
			p.links[i] = Link{A: l.B, LinkA: l.LinkB, B: l.A, LinkB: l.LinkA, MTU: l.MTU}
		}
		j := s.below(i + 1)
		p.links[i], p.links[j] = p.links[j], p.links[i]
	}
	return p
}

// manner is what worlds are to be like.
type manner struct {
	hosts, hops int
	true        bool // routes lead where they should, and no two nodes have one address
}

func (s *source) addrs(n int, x manner) []api.Addr {
	var l []api.Addr
	for _, a := range []api.Addr{four(byte(n), 1), six(byte(n), 1), four(byte(n), 2)} {
		if !s.once(8) {
			l = append(l, a)
		}
	}
	if other := four(byte(s.below(x.hosts+x.hops)), 1); !x.true && s.once(8) && !slices.Contains(l, other) {
		l = append(l, other)
	}
	return l
}

func (s *source) routes(p *plan, n int, x manner) []api.Route {
	var l []api.Route
	for to := range p.mtus {
		link := p.toward(to)[n]
		if !x.true && len(p.mtus[n]) > 0 && s.once(12) {
			link = s.below(len(p.mtus[n]))
		}
		if link < 0 || s.once(30) {
			continue
		}
		l = append(l, api.Route{Net: four(byte(to), 0), Bits: 24, Link: link})
		net, _ := addr.Mask(six(byte(to), 0), 48)
		l = append(l, api.Route{Net: net, Bits: 48, Link: link})
	}
	return l
}

func (s *source) config(x manner) Config {
	p := s.plan(x)
	c := Config{Links: p.links}
	for n := range p.mtus {
		own, routes := s.addrs(n, x), s.routes(p, n, x)
		if n >= x.hosts {
			c.Hops = append(c.Hops, api.HopConfig{Addrs: own, Links: p.mtus[n], Routes: routes})
			continue
		}
		c.Hosts = append(c.Hosts, api.HostConfig{
			Addrs:   own,
			Links:   p.mtus[n],
			Routes:  routes,
			Quota:   api.Quota{Entries: pick(s, 1, 2, 8, 64), Bytes: pick(s, 1000, 8000, 131072), Holes: pick(s, 1, 16, 8192), Timeout: int64(1 + s.below(8))},
			Paths:   api.Paths{Entries: pick(s, 1, 2, 16), Age: int64(1 + s.below(12))},
			Window:  pick(s, 1, 4, 64),
			Queue:   pick(s, 0, 1, 4, 16, 64),
			Bytes:   pick(s, 100, 4000, 131072),
			Sockets: pick(s, 2, 4, 16),
			Life:    pick[int64](s, 0, 0, 3, 60),
		})
	}
	return c
}

func (s *source) manner() manner {
	x := manner{hosts: pick(s, 1, 2, 2, 3, 4, 8), hops: pick(s, 0, 1, 1, 2, 3, 8), true: s.once(2)}
	if s.once(20) {
		x.hosts, x.hops = 0, 1+s.below(16)
	}
	return x
}

func (s *source) address(m *model) api.Addr {
	switch s.below(20) {
	case 0:
		return pick(s, api.Addr{}, api.Addr{V: 5}, any4, any6, api.Addr{V: 4, B: [16]byte{224}}, api.Addr{V: 4, B: [16]byte{127}}, four(200, 1), six(200, 1))
	case 1:
		return four(byte(s.below(m.nodes())), 3)
	}
	n := byte(s.below(m.nodes()))
	return pick(s, four(n, 1), four(n, 1), four(n, 2), six(n, 1), six(n, 1))
}

// host is most often one's number.
func (s *source) host(m *model) int {
	if len(m.hosts) == 0 || s.once(60) {
		return pick(s, -1, m.nodes(), len(m.hosts))
	}
	return s.below(len(m.hosts))
}

// place is most often one of the flight.
func (s *source) place(m *model) int {
	if len(m.flight) == 0 || s.once(60) {
		return pick(s, -1, len(m.flight), len(m.flight)+1)
	}
	if s.once(3) {
		return pick(s, 0, len(m.flight)-1)
	}
	return s.below(len(m.flight))
}

// about is a packet of a message about one that is under way, most often that it is too big.
func (s *source) about(m *model) (int, []byte) {
	b := pick(s, m.flight...).Bytes
	p, e := ip4.Parse(b)
	if e != api.OK {
		if p, e = ip6.Parse(b); e != api.OK {
			return 0, b
		}
	}
	q := api.Packet{V: p.V, Src: four(99, 1), Dst: p.Src, Proto: 1, TTL: 60}
	if p.V == 6 {
		q.Src, q.Proto = six(99, 1), 58
	}
	v, _ := icmp.TooBig(b, pick(s, 68, 576, 1280, 1300, 1492))
	q.Data, _ = icmp.Build(q.Src, q.Dst, v)
	to := slices.IndexFunc(m.c.Hosts, func(h api.HostConfig) bool { return slices.Contains(h.Addrs, p.Src) })
	if p.V == 6 {
		b, _ = ip6.Build(q)
	} else {
		b, _ = ip4.Build(q)
	}
	return max(to, 0), b
}

func (s *source) inject(m *model) api.Move {
	v := api.Move{Kind: api.MvInject, Node: s.below(m.nodes())}
	switch k := s.below(10); {
	case k < 4 && len(m.flight) > 0:
		v.Data = pick(s, m.flight...).Bytes
	case k < 8 && len(m.flight) > 0:
		v.Node, v.Data = s.about(m)
	case k == 8:
		v.Data = s.bytes(s.below(100))
	default:
		v.Node, v.Data = pick(s, -1, 0, m.nodes()), make([]byte, pick(s, 0, 65575, 65576))
	}
	return v
}

func (s *source) send(m *model) api.Move {
	v := api.Move{Kind: api.MvSend, Node: s.host(m), Port: pick(s, 7, 7, 7, 7, 7, 7, 7, 8, 8, 0, 65536)}
	v.Socket, v.Addr = pick(s, 1, 2, 3, 0), s.address(m)
	if n := len(m.hosts); n > 1 && !s.once(8) { // what begin has bound, to another host
		to := byte((v.Node + 1 + s.below(n-1)) % n)
		v.Socket, v.Addr = 1, four(to, 1)
		if s.once(3) {
			v.Socket, v.Addr = 2, six(to, 1)
		}
	}
	v.Data = s.bytes(pick(s, 0, 1, 20, 100, 548, 1232, 1400, 1472, 1473, 3000, s.below(4000)))
	if s.once(50) {
		v.Data = s.bytes(pick(s, 20000, 65507, 65508, 65528))
	}
	v.Flags.DF = s.once(4)
	v.Flags.NoSum = s.once(20)
	if s.once(12) {
		v.Flags.Opts = pick(s, []byte{1, 1, 1, 1}, []byte{0x94, 4, 0, 0}, []byte{7, 4, 1, 2, 0x94, 4, 0, 0}, []byte{9})
	}
	return v
}

// move is one of a script; a flight that is long is let to grow no more.
func (s *source) move(m *model) api.Move {
	k := s.below(100)
	if n := len(m.flight); n > 60 && k < 90 {
		return api.Move{Kind: pick(s, api.MvForward, api.MvDrop, api.MvDrop), K: s.place(m)}
	} else if n == 0 && !s.once(4) {
		return s.send(m)
	}
	switch {
	case k < 6:
		a := pick(s, any4, any6, s.address(m))
		return api.Move{Kind: api.MvBind, Node: s.host(m), Addr: a, Port: pick(s, 7, 7, 7, 0, 8, 65536)}
	case k < 7:
		return api.Move{Kind: api.MvShut, Node: s.host(m), Socket: pick(s, 0, 3, 3, 4, 4, 5, 1+s.below(2))}
	case k < 21:
		return s.send(m)
	case k < 27:
		return api.Move{Kind: api.MvRecv, Node: s.host(m), Socket: pick(s, 1, 1, 2, 2, 3, 0)}
	case k < 31:
		return api.Move{Kind: api.MvEstimate, Node: s.host(m), Addr: s.address(m)}
	case k < 68:
		return api.Move{Kind: api.MvForward, K: s.place(m)}
	case k < 71:
		return api.Move{Kind: api.MvDrop, K: s.place(m)}
	case k < 75:
		return api.Move{Kind: api.MvTwin, K: s.place(m)}
	case k < 80:
		return api.Move{Kind: api.MvSwap, K: s.place(m), J: s.place(m)}
	case k < 83:
		return api.Move{Kind: api.MvSpoil, K: s.place(m), J: pick(s, s.below(60), s.below(2000), -1), Mask: pick(s, 1, 64, 255, 1+s.below(255), 0, 256)}
	case k < 87:
		return s.inject(m)
	case k < 91:
		return api.Move{Kind: api.MvRecut, K: s.place(m), J: pick(s, 67, 68, 100, 300, 500, 1000, 1500, 65536)}
	case k < 99:
		return api.Move{Kind: api.MvTick}
	}
	return api.Move{Kind: pick(s, -1, 0, 14, 99), K: s.place(m)}
}

// begin are the moves by which a world's sockets are bound.
func (m *model) begin() []api.Move {
	var l []api.Move
	for n := range m.hosts {
		l = append(l, api.Move{Kind: api.MvBind, Node: n, Addr: any4, Port: 7}, api.Move{Kind: api.MvBind, Node: n, Addr: any6, Port: 7})
	}
	return l
}

// subject is a world with its model, which make the same moves.
type subject struct {
	t    *testing.T
	w    *World
	m    *model
	seen map[string]int
	// rough: what is handed in has room behind it and is written over behind the call, as are the answers.
	rough bool
}

func newSubject(t *testing.T, c Config, seen map[string]int) *subject {
	t.Helper()
	return &subject{t: t, w: made(t, c), m: newModel(t, c), seen: seen}
}

const mark = 0xa5

// in is what is handed in for b.
func (x *subject) in(b []byte) []byte {
	if !x.rough {
		return b
	}
	room := bytes.Repeat([]byte{mark}, len(b)+16)
	copy(room, b)
	return room[:len(b)]
}

// over sees that what was handed in for b is as it was, and writes it over.
func (x *subject) over(handed, b []byte) {
	x.t.Helper()
	if !x.rough {
		return
	}
	room := handed[:cap(handed)]
	if !bytes.Equal(handed, b) || slices.ContainsFunc(room[len(b):], func(c byte) bool { return c != mark }) {
		x.t.Fatal("P24.8: what was handed in has changed")
	}
	scribble(room)
}

// scribble turns every bit of a list and of the room behind it.
func scribble(b []byte) {
	b = b[:cap(b)]
	for i := range b {
		b[i] ^= 0xff
	}
}

// do makes a move, and holds its answer against the model's.
func (x *subject) do(v api.Move) api.Answer {
	x.t.Helper()
	want := x.m.do(v)
	h := v
	h.Data, h.Flags.Opts = x.in(v.Data), x.in(v.Flags.Opts)
	got := x.w.Do(h)
	if !sameAnswer(got, want) {
		x.t.Fatalf("P24.3: Do(%+v) = %+v; want %+v", brief(v), got, want)
	}
	x.over(h.Data, v.Data)
	x.over(h.Flags.Opts, v.Flags.Opts)
	if x.rough {
		want.Got.Data = bytes.Clone(want.Got.Data)
		scribble(got.Got.Data)
	}
	x.seen[fmt.Sprint(v.Kind, " ", want.Code)]++
	return want
}

// tells holds all that may be asked against the model.
func (x *subject) tells() {
	x.t.Helper()
	l := x.w.Flight()
	if !sameFlight(l, x.m.flight) {
		x.t.Fatalf("P24.4: Flight() = %v; want %v", l, x.m.flight)
	}
	if x.w.Lost() != x.m.lost || x.w.Now() != x.m.now {
		x.t.Fatalf("P24.4: %d lost, tick %d; want %d, %d", x.w.Lost(), x.w.Now(), x.m.lost, x.m.now)
	}
	for n := -1; n <= x.m.nodes(); n++ {
		s, e := x.w.State(n)
		if want, e2 := x.m.state(n); e != e2 || !sameState(s, want) {
			x.t.Fatalf("P24.4: State(%d) = %+v, %d; want %+v, %d", n, s, e, want, e2)
		}
		if x.rough {
			scribbleState(x.t, s)
		}
	}
	if x.rough {
		for i := range l {
			scribble(l[i].Bytes)
			l[i].Node += 7
		}
	}
}

// scribbleState writes over what a State tells, and sees that no two lists of it share memory.
func scribbleState(t *testing.T, s State) {
	t.Helper()
	queues := slices.Clone(s.Queues)
	turn(s.Sockets)
	if !slices.Equal(s.Queues, queues) {
		t.Fatal("P24.8: the queues share memory with the sockets")
	}
	sockets := slices.Clone(s.Sockets)
	turn(s.Queues)
	if !slices.Equal(s.Sockets, sockets) {
		t.Fatal("P24.8: the sockets share memory with the queues")
	}
	for i := range s.Keys[:cap(s.Keys)] {
		s.Keys[:cap(s.Keys)][i] = api.Key{V: 9, ID: 99}
	}
	for i := range s.Paths[:cap(s.Paths)] {
		s.Paths[:cap(s.Paths)][i] = api.Addr{V: 9}
	}
}

// turn turns every bit of a list of numbers and of the room behind it.
func turn(l []int) {
	l = l[:cap(l)]
	for i := range l {
		l[i] ^= -1
	}
}

// run makes so many moves, and asks behind each of them.
func (x *subject) run(s *source, moves int) {
	x.t.Helper()
	for _, v := range x.m.begin() {
		x.do(v)
	}
	for range moves {
		x.do(s.move(x.m))
		x.tells()
	}
}

// P24.3, P24.4: worlds of all kinds answer as their models, one move behind the other.
func TestModel(t *testing.T) {
	t.Parallel()
	g := source(2401)
	seen := map[string]int{}
	for range 1000 {
		x := newSubject(t, g.config(g.manner()), seen)
		x.run(&g, 250)
		x.w.Close()
		x.tells()
	}
	for kind := api.MvBind; kind <= api.MvTick; kind++ {
		if n := seen[fmt.Sprint(kind, " ", api.OK)]; n < 300 {
			t.Errorf("only %d moves of kind %d were accepted", n, kind)
		}
	}
	for _, what := range []string{"1 errno 1", "1 errno 200", "1 errno 201", "2 errno 1", "3 errno 1", "3 errno 3", "3 errno 40", "3 errno 100", "3 errno 210", "3 errno 240", "4 errno 220", "5 errno 210", "6 errno 240", "9 errno 240", "10 errno 1", "11 errno 3", "11 errno 240", "12 errno 1", "12 errno 100", "12 errno 240", "99 errno 1"} {
		if seen[what] < 15 {
			t.Errorf("too few of %s: %v", what, seen)
		}
	}
}

// P24.3: where the flight is full or nearly so, worlds answer as their models too.
func TestModelNearlyFull(t *testing.T) {
	t.Parallel()
	g := source(2402)
	seen := map[string]int{}
	lost := 0
	for range 6 {
		x := newSubject(t, g.config(manner{hosts: 3, hops: 2, true: true}), seen)
		for _, v := range x.m.begin() {
			x.do(v)
		}
		for range 40 {
			x.do(g.send(x.m))
		}
		filler := make([]Way, 16384-20-len(x.m.flight))
		for i := range filler {
			v := api.Move{Kind: api.MvInject, Node: i % 5, Data: []byte{byte(i), byte(i >> 8)}}
			filler[i] = Way{Node: v.Node, Bytes: v.Data}
			if a := x.w.Do(v); a.Code != api.OK {
				t.Fatalf("P24.3: inject: %d", a.Code)
			}
		}
		x.m.flight = append(x.m.flight, filler...)
		for i := range 400 {
			v := g.fullMove(x.m)
			x.do(v)
			if i%40 == 0 {
				x.tells()
			}
		}
		x.tells()
		lost += x.m.lost
	}
	if lost < 500 {
		t.Errorf("only %d were lost", lost)
	}
}

// fullMove is a move of a script in which the flight stays full.
func (s *source) fullMove(m *model) api.Move {
	near := pick(s, s.below(60), len(m.flight)-1-s.below(60))
	switch s.below(8) {
	case 0, 1:
		return s.send(m)
	case 2, 3:
		return api.Move{Kind: api.MvForward, K: near}
	case 4:
		return api.Move{Kind: api.MvTwin, K: near}
	case 5:
		return api.Move{Kind: api.MvRecut, K: near, J: pick(s, 68, 100, 300, 65535)}
	case 6:
		return api.Move{Kind: pick(s, api.MvDrop, api.MvTick), K: near}
	}
	return s.inject(m)
}
