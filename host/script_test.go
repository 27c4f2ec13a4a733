package host

import (
	"bytes"
	"slices"
	"testing"

	"mosaic/addr"
	"mosaic/api"
	"mosaic/icmp"
	"mosaic/udp"
)

// source is a plain generator, so that every run sees the same inputs.
type source uint64

func (s *source) next() uint64 {
	*s ^= *s << 13
	*s ^= *s >> 7
	*s ^= *s << 17
	return uint64(*s)
}

func (s *source) below(n int) int { return int((s.next() >> 11) % uint64(n)) }

// once in n times it says yes.
func (s *source) once(n int) bool { return s.below(n) == 0 }

func pick[T any](s *source, l ...T) T { return l[s.below(len(l))] }

// subject is a host with its model, which are asked the same.
type subject struct {
	t    *testing.T
	h    *Host
	m    *model
	last [][]byte // the first packets of its last sends
	// rough: what is handed in has room behind it and is written over behind the call, as are the answers.
	rough bool
}

func newSubject(t *testing.T, c api.HostConfig) *subject {
	t.Helper()
	return &subject{t: t, h: made(t, c), m: newModel(c)}
}

const mark = 0xa5

// in is what is handed in for b.
func (x *subject) in(b []byte) []byte {
	if !x.rough {
		return b
	}
	room := bytes.Repeat([]byte{mark}, len(b)+16)
	copy(room, b)
	return room[:len(b)]
}

// over sees that what was handed in for b is as it was, and writes it over.
func (x *subject) over(handed, b []byte) {
	x.t.Helper()
	if !x.rough {
		return
	}
	if !bytes.Equal(handed, b) || !marked(handed) {
		x.t.Fatal("P22.7: what was handed in has changed")
	}
	scribble(handed)
}

// marked says whether the room behind a list is as it was.
func marked(b []byte) bool {
	for _, c := range b[len(b):cap(b)] {
		if c != mark {
			return false
		}
	}
	return true
}

// scribble turns every bit of a list and of the room behind it.
func scribble(b []byte) {
	b = b[:cap(b)]
	for i := range b {
		b[i] ^= 0xff
	}
}

// outs holds what goes out against what should, and against P22.2; it answers copies.
func (x *subject) outs(what string, got, want []api.Out) [][]byte {
	x.t.Helper()
	if len(got) != len(want) {
		x.t.Fatalf("P22.1: %s: %d packets; want %d", what, len(got), len(want))
	}
	var l [][]byte
	for i, o := range got {
		if o.Link != want[i].Link || !bytes.Equal(o.Bytes, want[i].Bytes) {
			x.t.Fatalf("P22.1: %s: packet %d: %d, %x; want %d, %x", what, i, o.Link, o.Bytes, want[i].Link, want[i].Bytes)
		}
		x.goesOut(o)
		l = append(l, bytes.Clone(o.Bytes))
		if x.rough {
			scribble(o.Bytes)
		}
	}
	return l
}

// goesOut is P22.2 of one packet.
func (x *subject) goesOut(o api.Out) {
	x.t.Helper()
	p := taken(x.t, o.Bytes)
	n, e := x.h.Estimate(p.Dst)
	if e != api.OK || len(o.Bytes) > n || !x.m.own(p.Src) || p.TTL != 64 || o.Link != x.m.link(p.Dst) {
		x.t.Fatalf("P22.2: %+v goes over %d; the estimate is %d", p, o.Link, n)
	}
}

func (x *subject) bind(a api.Addr, port int) api.Errno {
	x.t.Helper()
	n, p, e := x.h.Bind(a, port)
	if n2, p2, e2 := x.m.bind(a, port); n != n2 || p != p2 || e != e2 {
		x.t.Fatalf("P22.1: Bind(%v, %d) = %d, %d, %d; want %d, %d, %d", a, port, n, p, e, n2, p2, e2)
	}
	return e
}

func (x *subject) close(n int) api.Errno {
	x.t.Helper()
	e := x.h.Close(n)
	if e2 := x.m.close(n); e != e2 {
		x.t.Fatalf("P22.1: Close(%d) = %d; want %d", n, e, e2)
	}
	return e
}

func (x *subject) send(n int, dst api.Addr, port int, data []byte, f api.Flags) ([][]byte, api.Errno) {
	x.t.Helper()
	d, o := x.in(data), x.in(f.Opts)
	g := f
	g.Opts = o
	got, e := x.h.Send(n, dst, port, d, g)
	want, e2 := x.m.send(n, dst, port, data, f)
	if e != e2 {
		x.t.Fatalf("P22.1: Send(%d, %v, %d, %d bytes, %+v) = %d; want %d", n, dst, port, len(data), f, e, e2)
	}
	x.over(d, data)
	x.over(o, f.Opts)
	return x.outs("Send", got, want), e
}

func (x *subject) recv(n int) api.Errno {
	x.t.Helper()
	g, e := x.h.Recv(n)
	if g2, e2 := x.m.recv(n); e != e2 || !sameGot(g, g2) {
		x.t.Fatalf("P22.1: Recv(%d) = %+v, %d; want %+v, %d", n, g, e, g2, e2)
	}
	if x.rough {
		scribble(g.Data)
	}
	return e
}

func (x *subject) packet(b []byte) [][]byte {
	x.t.Helper()
	d := x.in(b)
	got := x.h.Packet(d)
	want := x.m.packet(b)
	x.over(d, b)
	return x.outs("Packet", got, want)
}

func (x *subject) tick(now int64) ([][]byte, api.Errno) {
	x.t.Helper()
	got, e := x.h.Tick(now)
	want, e2 := x.m.tick(now)
	if e != e2 {
		x.t.Fatalf("P22.1: Tick(%d) = %d; want %d", now, e, e2)
	}
	return x.outs("Tick", got, want), e
}

func (x *subject) estimate(dst api.Addr) api.Errno {
	x.t.Helper()
	n, e := x.h.Estimate(dst)
	if n2, e2 := x.m.estimate(dst); n != n2 || e != e2 {
		x.t.Fatalf("P22.1: Estimate(%v) = %d, %d; want %d, %d", dst, n, e, n2, e2)
	}
	return e
}

func (x *subject) tells() {
	x.t.Helper()
	s := x.h.State()
	if want := x.m.state(); !sameState(s, want) {
		x.t.Fatalf("P22.1: State() = %+v; want %+v", s, want)
	}
	if !x.rough {
		return
	}
	for _, l := range [][]int{s.Sockets, s.Queues} {
		for i := range l[:cap(l)] {
			l[:cap(l)][i] = -7
		}
	}
	for i := range s.Keys[:cap(s.Keys)] {
		s.Keys[:cap(s.Keys)][i] = api.Key{V: 9}
	}
	for i := range s.Paths[:cap(s.Paths)] {
		s.Paths[:cap(s.Paths)][i] = api.Addr{V: 9}
	}
}

// Two hosts and those that only their packets name.
var (
	host4 = []api.Addr{four(1), four(2)}
	host6 = []api.Addr{six(1), six(2)}
)

// config is one of the host who (0 or 1), with narrow bounds.
func (s *source) config(who int) api.HostConfig {
	c := api.HostConfig{Addrs: []api.Addr{host4[who], host6[who]}}
	switch s.below(6) {
	case 0:
		c.Addrs = append(c.Addrs, four(byte(20+who)), six(byte(20+who)))
	case 1:
		c.Addrs = append([]api.Addr{six(byte(20 + who)), {V: 4, B: [16]byte{192, 168, 0, byte(1 + who)}}}, c.Addrs...)
	case 2:
		c.Addrs = c.Addrs[s.below(2):][:1]
	}
	for range 2 + s.below(3) {
		c.Links = append(c.Links, pick(s, 68, 100, 296, 576, 1279, 1280, 1281, 1500, 1500, 1500, 9000, 65535))
	}
	for _, r := range []api.Route{{Net: api.Addr{V: 4, B: [16]byte{10}}, Bits: 8}, {Net: any6, Bits: 0}, {Net: any4, Bits: 0}, {Net: host4[1-who], Bits: 32}, {Net: host6[1-who], Bits: 128}, {Net: api.Addr{V: 6, B: [16]byte{0x20, 1}}, Bits: 16}} {
		if len(c.Routes) == 0 || !s.once(3) {
			r.Link = s.below(len(c.Links))
			c.Routes = append(c.Routes, r)
		}
	}
	c.Quota = api.Quota{Entries: pick(s, 1, 2, 4, 64), Bytes: pick(s, 0, 500, 3000, 131072, 1<<20), Holes: pick(s, 1, 2, 3, 8192, 8192), Timeout: pick(s, int64(1), 5, 20, 60)}
	c.Paths = api.Paths{Entries: pick(s, 1, 2, 64), Age: pick(s, int64(1), 10, 40, 600)}
	c.Window, c.Queue, c.Bytes, c.Sockets = pick(s, 0, 1, 2, 5, 64), pick(s, 0, 1, 3, 64), pick(s, 0, 10, 2000, 131072), pick(s, 1, 3, 6, 32)
	c.Life = pick(s, int64(0), 5)
	return c
}

// address is mostly one of the two hosts'.
func (s *source) address() api.Addr {
	switch s.below(8) {
	case 0:
		return pick(s, notPlain()...)
	case 1:
		return pick(s, four(3), six(3), far4, far6, four(20), six(21))
	}
	return pick(s, host4[0], host4[1], host6[0], host6[1])
}

// of is an address of a version, mostly one of a host's.
func (s *source) of(c api.HostConfig, v int) api.Addr {
	for range 20 {
		if a := pick(s, c.Addrs...); a.V == v {
			return a
		}
	}
	return api.Addr{V: v}
}

func (s *source) port() int {
	return pick(s, 7, 7, 7, 8, 49152, 49153, 0, 65535, 65536, -1)
}

func (s *source) size() int {
	if s.once(30) {
		return pick(s, 65467, 65503, 65504, 65507, 65508, 65508, 65527, 65528, 65528)
	}
	return pick(s, 0, 1, 2, 7, 8, 9, 40, 41, 200, 500, 548, 549, 1000, 1232, 1233, 1452, 1472, 1473, 2000, 3000)
}

func (s *source) flags() api.Flags {
	f := api.Flags{DF: s.once(4), NoSum: s.once(8)}
	if s.once(5) {
		f.Opts = pick(s, alert, pad, slices.Concat(alert, pad), bytes.Repeat(alert, 10), noOpt)
	}
	return f
}

func (s *source) bytes(n int) []byte {
	b := make([]byte, n)
	for i := range b {
		b[i] = byte(s.next() >> 20)
	}
	return b
}

// socket is mostly an open one.
func (s *source) socket(m *model) int {
	if l := m.all(); len(l) > 0 && !s.once(8) {
		return pick(s, l...)
	}
	return s.below(len(m.socks)+3) - 1
}

// crafted is a packet to a host that no host sent, and that may be right all the same; sent are packets of this host.
func (s *source) crafted(c api.HostConfig, sent [][]byte) []byte {
	v := pick(s, 4, 6)
	src, dst := s.address(), s.of(c, v)
	for range 20 {
		if addr.Valid(src) && src.V == v {
			break
		}
		src = s.address()
	}
	if !addr.Valid(src) || src.V != v {
		src = api.Addr{V: v}
	}
	p := api.Packet{V: v, Src: src, Dst: dst, TTL: s.below(256), Proto: 17}
	if s.once(5) {
		p.TOS = s.below(256)
	}
	if v == 4 {
		p.ID = uint32(s.below(3))
		p.DF = s.once(4)
		p.Opts = pick(s, nil, nil, alert, bytes.Repeat(alert, 10))
	}
	switch s.below(4) {
	case 0:
		p.Data, _ = udp.Build(src, dst, api.Dgram{SPort: s.below(65536), DPort: pick(s, 7, 7, 8, 9, 0, 49152), Data: s.bytes(pick(s, 0, 1, 8, 9, 30, 100))})
	case 1:
		p.Proto = icmpOf(v)
		p.Data, _ = icmp.Build(src, dst, s.message(v, sent))
	case 2:
		p.Proto = pick(s, 0, 1, 17, 58, 99)
		p.Data = s.bytes(s.below(40))
	case 3:
		s.fragment(&p)
	}
	if v == 6 && s.once(6) {
		p.Frag, p.ID = true, uint32(s.below(3)) // atomic, if it is no other
	}
	return s.spoilt(lay(p))
}

// fragment makes p a small one, of a datagram of few bytes, so that they meet.
func (s *source) fragment(p *api.Packet) {
	p.Proto = pick(s, 17, 17, 1, 58)
	p.Off, p.Frag, p.ID = 8*s.below(4), p.V == 6, uint32(s.below(2))
	p.More = p.Off == 0 || !s.once(2)
	n := 8 * (1 + s.below(3))
	if !p.More {
		n -= s.below(8)
	}
	p.Data = bytes.Repeat([]byte{pick(s, byte(3), 8, 128)}, n)
	if s.once(6) {
		p.Data[s.below(n)]++
	}
	if s.once(30) {
		p.Off = 65528
		p.More, p.Data = false, p.Data[:min(n, 7)]
	}
}

// message is mostly an error about one of these packets, a late one.
func (s *source) message(v int, sent [][]byte) api.Message {
	body := s.bytes(s.below(60))
	for _, b := range slices.Backward(sent) {
		if x, e := icmp.TooBig(b, 0); e == api.OK && x.V == v && s.once(2) {
			body = x.Body
			break
		}
	}
	if s.once(6) && len(body) > 0 {
		body[s.below(min(len(body), 60))] ^= 1 << s.below(8)
	}
	if s.once(10) {
		body = body[:s.below(len(body)+1)]
	}
	x := api.Message{V: v, Type: 3, Code: 4, Body: body}
	if v == 6 {
		x.Type, x.Code = 2, 0
	}
	if s.once(4) {
		x.Type, x.Code = pick(s, 0, 1, 2, 3, 4, 5, 8, 11, 12, 127, 128), pick(s, 0, 1, 3, 4)
	}
	x.Rest = uint32(pick(s, 0, 1, 67, 68, 69, 500, 576, 1279, 1280, 1300, 1499, 1500, 65535, 65536+576))
	return x
}

// spoilt changes some bytes of a few packets.
func (s *source) spoilt(b []byte) []byte {
	switch s.below(25) {
	case 0:
		b = bytes.Clone(b)
		b[s.below(len(b))] ^= 1 << s.below(8)
	case 1:
		b = b[:s.below(len(b))]
	case 2:
		b = append(bytes.Clone(b), 0)
	}
	return b
}

// tally is how often a script came to what it is there for.
type tally struct {
	errors map[api.Errno]int
	counts [8]int
	moves  map[string]int
}

func newTally() *tally { return &tally{errors: map[api.Errno]int{}, moves: map[string]int{}} }

func (c *tally) least(t *testing.T, n int, moves ...string) {
	t.Helper()
	for _, e := range []api.Errno{api.OK, api.ErrArg, api.ErrLong, api.ErrOpt, api.ErrBig, api.ErrInUse, api.ErrSpent, api.ErrRoute, api.ErrEmpty} {
		if c.errors[e] < n {
			t.Errorf("%v came %d times only", e, c.errors[e])
		}
	}
	if slices.Min(c.counts[:]) < n {
		t.Errorf("counts: %v", c.counts)
	}
	for _, m := range moves {
		if c.moves[m] < n {
			t.Errorf("%s: %d times only: %v", m, c.moves[m], c.moves)
		}
	}
}

// world is two hosts with their models, and what is under way between them.
type world struct {
	hosts  [2]*subject
	flight [][]byte
	tally  *tally
}

func newWorld(t *testing.T, s *source, c *tally) *world {
	t.Helper()
	w := &world{tally: c}
	for i := range w.hosts {
		w.hosts[i] = newSubject(t, s.config(i))
		w.hosts[i].bind(any4, 7)
		w.hosts[i].bind(any6, 7)
	}
	return w
}

func (w *world) fly(l [][]byte) {
	if len(l) > 60 {
		l = l[:60]
	}
	w.flight = append(w.flight, l...)
	if n := len(w.flight); n > 80 {
		w.flight = slices.Clone(w.flight[n-80:])
	}
}

// move does one thing to one of the hosts.
func (w *world) move(s *source) {
	x := w.hosts[s.below(2)]
	e := api.OK
	var l [][]byte
	switch s.below(20) {
	case 0, 1:
		a := s.address()
		if s.once(2) {
			a = pick(s, append(x.m.c.Addrs, any4, any6)...)
		}
		e = x.bind(a, s.port())
	case 2:
		if s.once(3) {
			e = x.close(s.socket(x.m))
		}
	case 3, 4, 5, 6:
		l, e = w.send(s, x)
	case 7, 8:
		e = x.recv(s.socket(x.m))
	case 9:
		e = x.estimate(s.address())
	case 10, 11:
		l, e = x.tick(x.m.now + pick(s, int64(0), 1, 1, 1, 4, 5, 20, -1, -x.m.now-1, 1<<40+1))
		if len(l) > 0 {
			w.tally.moves["late"]++
		}
	case 12, 13, 14:
		l = x.packet(s.crafted(x.m.c, x.last))
	default:
		if len(w.flight) > 0 {
			l = w.forward(s, x)
		}
	}
	w.tally.errors[e]++
	w.fly(l)
}

func (w *world) send(s *source, x *subject) ([][]byte, api.Errno) {
	n := s.socket(x.m)
	dst := s.address()
	if x.m.open(n) && !s.once(8) {
		dst = pick(s, host4...)
		if x.m.socks[n-1].a.V == 6 {
			dst = pick(s, host6...)
		}
	}
	f := s.flags()
	if dst.V == 6 && !s.once(8) {
		f = api.Flags{DF: f.DF}
	}
	l, e := x.send(n, dst, s.port(), s.bytes(s.size()), f)
	if len(l) > 0 {
		x.last = append(x.last, l[0])
		x.last = x.last[max(0, len(x.last)-8):]
	}
	if len(l) > 1 {
		w.tally.moves["cut"]++
		if dst.V == 6 {
			w.tally.moves["cut6"]++
		}
	}
	return l, e
}

// forward puts a packet that is under way into a host; mostly it leaves the flight.
func (w *world) forward(s *source, x *subject) [][]byte {
	k := s.below(len(w.flight))
	if s.once(2) {
		k = 0
	}
	b := w.flight[k]
	if !s.once(5) {
		w.flight = slices.Delete(w.flight, k, k+1)
	}
	for _, y := range w.hosts {
		if len(b) >= 40 && !s.once(10) && slices.ContainsFunc(y.m.c.Addrs, func(a api.Addr) bool { return bytes.Equal(a.B[:4], b[16:20]) || bytes.Equal(a.B[:], b[24:40]) }) {
			x = y
		}
	}
	waiting := len(x.m.parts)
	l := x.packet(s.spoilt(b))
	if len(x.m.parts) < waiting {
		w.tally.moves["joined"]++
	}
	if len(l) > 0 {
		w.tally.moves["answered"]++
	}
	return l
}

func (w *world) run(s *source, moves int) {
	for i := range moves {
		w.move(s)
		if i%5 == 0 {
			w.hosts[0].tells()
			w.hosts[1].tells()
		}
	}
	for _, x := range w.hosts {
		x.tells()
		for i, n := range x.m.counts {
			w.tally.counts[i] += n
		}
	}
}

// Every answer of long mixed scripts is the model's.
func TestAgainstModel(t *testing.T) {
	g := source(22)
	c := newTally()
	for range 1500 {
		newWorld(t, &g, c).run(&g, 200)
	}
	c.least(t, 200, "cut", "cut6", "late", "joined", "answered")
}

// The same with what is handed in, and what is answered, written over behind each call.
func TestNothingIsShared(t *testing.T) {
	g := source(227)
	c := newTally()
	for range 500 {
		w := newWorld(t, &g, c)
		w.hosts[0].rough, w.hosts[1].rough = true, true
		w.run(&g, 200)
	}
	c.least(t, 50, "cut", "cut6", "late", "joined", "answered")
}
