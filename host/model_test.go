package host

import (
	"bytes"
	"slices"

	"mosaic/addr"
	"mosaic/api"
	"mosaic/cut"
	"mosaic/icmp"
	"mosaic/ip4"
	"mosaic/ip6"
	"mosaic/opts"
	"mosaic/plateau"
	"mosaic/udp"
)

// model is the chapter's words over plain lists: packets are laid and cut by the layers that do so, and all that a host keeps is kept here anew.
type model struct {
	c      api.HostConfig
	now    int64
	socks  []sock // the socket n is socks[n-1], closed ones too
	sends  []note // all that were ever sent
	heard  []fall // those whose estimate fell, the one heard last at the end
	parts  []*part
	given  map[int][]int64 // by version: the ticks at which identifications were given
	counts [8]int
}

type sock struct {
	end
	closed bool
	line   []api.Got
}

type note struct {
	first  api.Packet // as a link would see it, whatever is behind its first 8 bytes
	length int
}

type fall struct {
	dst             api.Addr
	estimate, first int
	clock           int64
}

// part is a datagram in the making: a partial function from offsets to bytes, and perhaps its end.
type part struct {
	key   api.Key
	born  int64
	bad   bool
	at    map[int]byte
	end   int // below 0: not known
	first []api.Packet
	came  []api.Packet
}

func newModel(c api.HostConfig) *model { return &model{c: c, given: map[int][]int64{}} }

func (m *model) own(a api.Addr) bool { return slices.Contains(m.c.Addrs, a) }

func (m *model) just(a api.Addr, port int) int {
	for i, s := range m.socks {
		if !s.closed && s.end == (end{a, port}) {
			return i + 1
		}
	}
	return 0
}

func (m *model) open(n int) bool { return n >= 1 && n <= len(m.socks) && !m.socks[n-1].closed }

func (m *model) all() []int {
	var l []int
	for n := range len(m.socks) + 1 {
		if m.open(n) {
			l = append(l, n)
		}
	}
	return l
}

func (m *model) bind(a api.Addr, port int) (int, int, api.Errno) {
	switch {
	case !m.own(a) && a != any4 && a != any6 || port < 0 || port > 65535:
		return 0, 0, api.ErrArg
	case port > 0 && m.just(a, port) != 0:
		return 0, 0, api.ErrInUse
	case len(m.all()) >= m.c.Sockets:
		return 0, 0, api.ErrSpent
	}
	if port == 0 {
		for port = 49152; m.just(a, port) != 0; port++ {
		}
	}
	m.socks = append(m.socks, sock{end: end{a, port}})
	return len(m.socks), port, api.OK
}

func (m *model) close(n int) api.Errno {
	if !m.open(n) {
		return api.ErrArg
	}
	m.socks[n-1] = sock{closed: true}
	return api.OK
}

func (m *model) recv(n int) (api.Got, api.Errno) {
	if !m.open(n) {
		return api.Got{}, api.ErrArg
	}
	s := &m.socks[n-1]
	if len(s.line) == 0 {
		return api.Got{}, api.ErrEmpty
	}
	g := s.line[0]
	s.line = s.line[1:]
	return g, api.OK
}

// link is the one to an address; below 0: there is none.
func (m *model) link(dst api.Addr) int {
	link, bits := -1, -1
	for _, r := range m.c.Routes {
		if addr.Within(dst, r.Net, r.Bits) && r.Bits > bits {
			link, bits = r.Link, r.Bits
		}
	}
	if link >= 0 && dst.V == 6 && m.c.Links[link] < 1280 {
		return -1
	}
	return link
}

func (m *model) fallOf(dst api.Addr) int {
	return slices.IndexFunc(m.heard, func(f fall) bool { return f.dst == dst })
}

// believed is the estimate for an address to which there is a link.
func (m *model) believed(dst api.Addr) int {
	first := m.c.Links[m.link(dst)]
	if i := m.fallOf(dst); i >= 0 {
		return min(first, m.heard[i].estimate)
	}
	return first
}

func (m *model) estimate(dst api.Addr) (int, api.Errno) {
	switch {
	case !addr.Valid(dst):
		return 0, api.ErrArg
	case m.link(dst) < 0:
		return 0, api.ErrRoute
	}
	return m.believed(dst), api.OK
}

// next is the identification in turn; false: it is busy.
func (m *model) next(v int) (uint32, bool) {
	space := int64(1) << 32
	if v == 4 {
		space = 1 << 16
	}
	n := int64(len(m.given[v]))
	if n >= space && m.now-m.given[v][n-space] < m.c.Life {
		return 0, false
	}
	m.given[v] = append(m.given[v], m.now)
	return uint32(n % space), true
}

func (m *model) source(a api.Addr) (api.Addr, bool) {
	if a != any4 && a != any6 {
		return a, true
	}
	var l []api.Addr
	for _, b := range m.c.Addrs {
		if b.V == a.V {
			l = append(l, b)
		}
	}
	if len(l) == 0 {
		return api.Addr{}, false
	}
	return slices.MinFunc(l, func(x, y api.Addr) int { return bytes.Compare(x.B[:], y.B[:]) }), true
}

func lay(p api.Packet) []byte {
	b, e := ip4.Build(p)
	if p.V == 6 {
		b, e = ip6.Build(p)
	}
	if e != api.OK {
		panic("not right")
	}
	return b
}

// emit gives a packet its identification, if it needs one, and cuts it; false: none is free.
func (m *model) emit(p api.Packet, remember bool) ([]api.Out, bool) {
	estimate, length := m.believed(p.Dst), len(lay(p))
	id, free := uint32(0), true
	if p.V == 4 || length > estimate {
		id, free = m.next(p.V)
	}
	if !free {
		return nil, false
	}
	if p.V == 4 {
		p.ID = id
	}
	l, e := cut.Cut(p, estimate, id)
	if e != api.OK {
		panic("not cut")
	}
	if remember {
		m.sends = append(m.sends, note{l[0], length})
	}
	var out []api.Out
	for _, q := range l {
		out = append(out, api.Out{Link: m.link(p.Dst), Bytes: lay(q)})
	}
	return out, true
}

func (m *model) send(n int, dst api.Addr, port int, data []byte, f api.Flags) ([]api.Out, api.Errno) {
	if !m.open(n) || addr.Kind(dst) != api.Plain || m.own(dst) || port < 1 || port > 65535 {
		return nil, api.ErrArg
	}
	s := m.socks[n-1]
	if dst.V != s.a.V || dst.V == 6 && (f.NoSum || len(f.Opts) > 0) {
		return nil, api.ErrArg
	}
	src, has := m.source(s.a)
	switch {
	case !opts.Valid(f.Opts):
		return nil, api.ErrOpt
	case dst.V == 4 && len(data) > 65507-len(f.Opts) || len(data) > 65527:
		return nil, api.ErrLong
	case !has || m.link(dst) < 0:
		return nil, api.ErrRoute
	}
	p := api.Packet{V: dst.V, Src: src, Dst: dst, Proto: 17, TTL: 64, DF: f.DF && dst.V == 4, Opts: f.Opts}
	p.Data, _ = udp.Build(src, dst, api.Dgram{SPort: s.port, DPort: port, NoSum: f.NoSum, Data: data})
	if f.DF && len(lay(p)) > m.believed(dst) {
		return nil, api.ErrBig
	}
	out, free := m.emit(p, true)
	if !free {
		return nil, api.ErrBusy
	}
	return out, api.OK
}

func icmpOf(v int) int { return map[int]int{4: 1, 6: 58}[v] }

func (m *model) tell(src, dst api.Addr, x api.Message) []api.Out {
	if addr.Kind(dst) != api.Plain || m.own(dst) || m.link(dst) < 0 {
		return nil
	}
	p := api.Packet{V: src.V, Src: src, Dst: dst, Proto: icmpOf(src.V), TTL: 64}
	p.Data, _ = icmp.Build(src, dst, x)
	out, _ := m.emit(p, false)
	return out
}

func (m *model) packet(b []byte) []api.Out {
	p, e := ip4.Parse(b)
	if e != api.OK {
		p, e = ip6.Parse(b)
	}
	if e != api.OK {
		m.counts[0]++
		return nil
	}
	if !m.own(p.Dst) {
		m.counts[1]++
		return nil
	}
	d, is := m.put(p)
	if !is {
		return nil
	}
	if d.Proto == 17 {
		if u, e := udp.Parse(d.Src, d.Dst, d.Data); e == api.OK {
			return m.deliver(d, u)
		}
	}
	if d.Proto == icmpOf(d.V) {
		if x, e := icmp.Parse(d.Src, d.Dst, d.Data); e == api.OK {
			m.hear(x)
			return nil
		}
	}
	m.counts[2]++
	return nil
}

func (m *model) deliver(d api.Packet, u api.Dgram) []api.Out {
	n := m.just(d.Dst, u.DPort)
	if n == 0 {
		n = m.just(api.Addr{V: d.V}, u.DPort)
	}
	if n == 0 {
		m.counts[3]++
		x, _ := icmp.NoPort(lay(d))
		return m.tell(d.Dst, d.Src, x)
	}
	s := &m.socks[n-1]
	held := 0
	for _, g := range s.line {
		held += len(g.Data)
	}
	if len(s.line) >= m.c.Queue || held+len(u.Data) > m.c.Bytes {
		m.counts[4]++
		return nil
	}
	s.line = append(s.line, api.Got{Src: d.Src, SPort: u.SPort, Dst: d.Dst, DPort: u.DPort, Data: u.Data})
	return nil
}

// matches looks through the last Window sends, the latest first.
func (m *model) matches(q api.Packet) (int, bool) {
	for i := len(m.sends) - 1; i >= 0 && i >= len(m.sends)-m.c.Window; i-- {
		p := m.sends[i].first
		n := min(8, len(p.Data))
		if q.Off == 0 && q.V == p.V && q.Src == p.Src && q.Dst == p.Dst && q.Proto == p.Proto && q.Frag == p.Frag && q.ID == p.ID && len(q.Data) >= n && bytes.Equal(q.Data[:n], p.Data[:n]) {
			return m.sends[i].length, true
		}
	}
	return 0, false
}

func (m *model) hear(x api.Message) {
	m.counts[5]++
	if !icmp.IsError(x) {
		return
	}
	q, _, e := icmp.Look(x)
	if e != api.OK {
		return
	}
	length, is := m.matches(q)
	if !is {
		return
	}
	m.counts[6]++
	if x.V == 4 && (x.Type != 3 || x.Code != 4) || x.V == 6 && (x.Type != 2 || x.Code != 0) {
		return
	}
	mtu := int(x.Rest)
	switch {
	case x.V == 6 && mtu < 1280:
		return
	case x.V == 4 && mtu == 0:
		mtu = plateau.Below(length)
	case x.V == 4:
		mtu = max(mtu, 68)
	}
	if mtu >= m.believed(q.Dst) {
		return
	}
	m.counts[7]++
	m.heard = slices.DeleteFunc(m.heard, func(f fall) bool { return f.dst == q.Dst })
	m.heard = append(m.heard, fall{q.Dst, mtu, m.c.Links[m.link(q.Dst)], m.now})
	if len(m.heard) > m.c.Paths.Entries {
		m.heard = m.heard[1:]
	}
}

func (m *model) tick(now int64) ([]api.Out, api.Errno) {
	if now < m.now || now > 1<<40 {
		return nil, api.ErrArg
	}
	m.now = now
	for i := range m.heard {
		if f := &m.heard[i]; now-f.clock >= m.c.Paths.Age {
			f.estimate, f.clock = plateau.Above(f.estimate), now
		}
	}
	m.heard = slices.DeleteFunc(m.heard, func(f fall) bool { return f.clock == now && f.estimate >= f.first })
	var out []api.Out
	for _, p := range m.late() {
		if p.Proto != icmpOf(p.V) || !icmp.IsError(api.Message{V: p.V, Type: int(p.Data[0])}) {
			x, _ := icmp.LateParts(lay(p))
			out = append(out, m.tell(p.Dst, p.Src, x)...)
		}
	}
	return out, api.OK
}

// late lets go of what is too old, and tells the first fragments.
func (m *model) late() []api.Packet {
	var l []api.Packet
	m.parts = slices.DeleteFunc(m.parts, func(x *part) bool {
		old := m.now-x.born >= m.c.Quota.Timeout
		if old && !x.bad {
			l = append(l, x.first...)
		}
		return old
	})
	return l
}

// put is the table's Put: the datagram, if there is one.
func (m *model) put(p api.Packet) (api.Packet, bool) {
	m.late()
	if p.Off == 0 && !p.More {
		if p.V == 6 {
			p.Frag, p.ID = false, 0
		}
		return p, true
	}
	k := api.Key{V: p.V, Src: p.Src, Dst: p.Dst, Proto: p.Proto, ID: p.ID}
	i := slices.IndexFunc(m.parts, func(x *part) bool { return x.key == k })
	if i < 0 {
		i = len(m.parts)
		m.parts = append(m.parts, &part{key: k, born: m.now, at: map[int]byte{}, end: -1})
	}
	x := m.parts[i]
	x.take(p)
	if !x.bad && x.holes() == 0 {
		m.parts = slices.Delete(m.parts, i, i+1)
		return x.whole(), true
	}
	if !x.bad && x.holes() > m.c.Quota.Holes {
		x.bad = true
	}
	for len(m.parts) > m.c.Quota.Entries || m.held() > m.c.Quota.Bytes {
		m.parts = m.parts[1:]
	}
	return api.Packet{}, false
}

func (m *model) held() int {
	n := 0
	for _, x := range m.parts {
		if !x.bad {
			n += len(x.at)
		}
	}
	return n
}

// take asks each byte of a fragment by itself.
func (x *part) take(p api.Packet) {
	to, top := p.Off+len(p.Data), 0
	for at := range x.at {
		top = max(top, at+1)
	}
	end, first := x.end, x.first
	if !p.More && end < 0 {
		end = to
	}
	if p.Off == 0 && len(first) == 0 {
		first = []api.Packet{p}
	}
	if end >= 0 && max(top, to) > end || !p.More && to != end {
		x.bad = true
		return
	}
	if p.V == 4 && len(first) > 0 && end >= 0 && 20+len(first[0].Opts)+end > 65535 {
		x.bad = true
		return
	}
	met := 0
	for i, b := range p.Data {
		if was, is := x.at[p.Off+i]; is {
			met++
			x.bad = x.bad || was != b
		}
	}
	again := slices.ContainsFunc(x.came, func(q api.Packet) bool {
		return q.Off == p.Off && q.More == p.More && bytes.Equal(q.Data, p.Data)
	})
	x.bad = x.bad || p.V == 6 && met > 0 && !again
	for i, b := range p.Data {
		x.at[p.Off+i] = b
	}
	x.came, x.end, x.first = append(x.came, p), end, first
}

// holes counts the runs that are missing: each begins at 0, or behind a byte that is there.
func (x *part) holes() int {
	n := 0
	if _, is := x.at[0]; !is {
		n++
	}
	for at := range x.at {
		if _, is := x.at[at+1]; !is && at+1 != x.end {
			n++
		}
	}
	return n
}

func (x *part) whole() api.Packet {
	p := x.first[0]
	p.More, p.Data = false, make([]byte, x.end)
	for at, b := range x.at {
		p.Data[at] = b
	}
	if p.V == 6 {
		p.Frag, p.ID = false, 0
	}
	return p
}

func (m *model) state() State {
	s := State{Sockets: m.all(), Bytes: m.held(), Counts: m.counts}
	for _, n := range s.Sockets {
		s.Queues = append(s.Queues, len(m.socks[n-1].line))
	}
	for _, x := range m.parts {
		s.Keys = append(s.Keys, x.key)
	}
	for _, f := range m.heard {
		s.Paths = append(s.Paths, f.dst)
	}
	slices.SortFunc(s.Paths, func(a, b api.Addr) int {
		if a.V != b.V {
			return a.V - b.V
		}
		return bytes.Compare(a.B[:], b.B[:])
	})
	return s
}
