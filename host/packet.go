package host

import (
	"mosaic/api"
	"mosaic/icmp"
	"mosaic/ip4"
	"mosaic/ip6"
	"mosaic/udp"
)

// Packet takes bytes that come in.
func (h *Host) Packet(b []byte) []api.Out {
	p, is := parse(b)
	if !is {
		h.counts[noPacket]++
		return nil
	}
	if !h.isOwn(p.Dst) {
		h.counts[notOurs]++
		return nil
	}
	// None is late here: Tick has let go of all that is too old at now.
	told, _ := h.parts.Put(p, h.now)
	if len(told.Whole) == 0 {
		return nil
	}
	return h.handOn(told.Whole[0])
}

// Tick lets time pass: to now.
func (h *Host) Tick(now int64) ([]api.Out, api.Errno) {
	if now < h.now || now > api.MaxTick {
		return nil, api.ErrArg
	}
	h.now = now
	h.estimates.Tick(now)
	told, _ := h.parts.Tick(now)
	var l []api.Out
	for _, p := range told.Late {
		if beginsError(p) {
			continue
		}
		m, _ := icmp.LateParts(bytesOf(p))
		l = append(l, h.tell(p.Dst, p.Src, m)...)
	}
	return l, api.OK
}

func parse(b []byte) (api.Packet, bool) {
	if p, e := ip4.Parse(b); e == api.OK {
		return p, true
	}
	p, e := ip6.Parse(b)
	return p, e == api.OK
}

// beginsError says whether a first fragment is of an ICMP error: about such a one nothing is told, lest errors beget errors.
func beginsError(p api.Packet) bool {
	return p.Proto == protoICMP(p.V) && icmp.IsError(api.Message{V: p.V, Type: int(p.Data[0])})
}

// handOn gives a datagram to its protocol.
func (h *Host) handOn(d api.Packet) []api.Out {
	for _, p := range h.protocols {
		if p.version == d.V && p.number == d.Proto {
			return p.take(d)
		}
	}
	h.counts[notRead]++
	return nil
}

// takeDatagram takes one of UDP to its socket.
func (h *Host) takeDatagram(d api.Packet) []api.Out {
	u, e := udp.Parse(d.Src, d.Dst, d.Data)
	if e != api.OK {
		h.counts[notRead]++
		return nil
	}
	socket := h.sockets.Find(d.Dst, u.DPort)
	if socket == 0 {
		h.counts[noSocket]++
		m, _ := icmp.NoPort(bytesOf(d))
		return h.tell(d.Dst, d.Src, m)
	}
	g := api.Got{Src: d.Src, SPort: u.SPort, Dst: d.Dst, DPort: u.DPort, Data: u.Data}
	if !h.lines[socket].Push(g) {
		h.counts[noRoom]++
	}
	return nil
}

// takeMessage takes one of ICMP; none is ever answered.
func (h *Host) takeMessage(d api.Packet) []api.Out {
	m, e := icmp.Parse(d.Src, d.Dst, d.Data)
	if e != api.OK {
		h.counts[notRead]++
		return nil
	}
	h.counts[heard]++
	if icmp.IsError(m) {
		h.learn(m)
	}
	return nil
}

// learn believes an error only if it quotes what was sent lately.
func (h *Host) learn(m api.Message) {
	q, _, e := icmp.Look(m)
	if e != api.OK {
		return
	}
	length, is := h.window.Match(q)
	if !is {
		return
	}
	h.counts[matched]++
	way, leads := h.pathTo(q.Dst)
	if !leads || !isTooBig(m) {
		return
	}
	if fell, _ := h.estimates.Hear(q.Dst, way.first, int(m.Rest), length, h.now); fell {
		h.counts[fallen]++
	}
}

// isTooBig says whether a message is icmp's error of that name.
func isTooBig(m api.Message) bool {
	if m.V == 6 {
		return m.Type == 2 && m.Code == 0
	}
	return m.Type == 3 && m.Code == 4
}
