package host

import (
	"mosaic/addr"
	"mosaic/api"
	"mosaic/cut"
	"mosaic/icmp"
	"mosaic/ip4"
	"mosaic/ip6"
	"mosaic/opts"
	"mosaic/udp"
)

// life is the TTL of all that a host sends.
const life = 64

// Send sends data to an address and port.
func (h *Host) Send(socket int, dst api.Addr, port int, data []byte, f api.Flags) ([]api.Out, api.Errno) {
	bound, from, e := h.sockets.At(socket)
	if e != api.OK || bound.V != dst.V || !h.mayReach(dst) || port < 1 || port > maxPort || !mayFlag(dst.V, f) {
		return nil, api.ErrArg
	}
	if !opts.Valid(f.Opts) {
		return nil, api.ErrOpt
	}
	if len(data) > room(dst.V, f) {
		return nil, api.ErrLong
	}
	src, has := h.sourceOf(bound)
	way, leads := h.pathTo(dst)
	if !has || !leads {
		return nil, api.ErrRoute
	}
	p := packet(src, dst, api.ProtoUDP)
	p.DF, p.Opts = f.DF && p.V == 4, f.Opts
	p.Data, _ = udp.Build(src, dst, api.Dgram{SPort: from, DPort: port, NoSum: f.NoSum, Data: data})
	if f.DF && lengthOf(p) > way.estimate {
		return nil, api.ErrBig
	}
	x, e := h.identified(p, way)
	if e != api.OK {
		return nil, e
	}
	h.window.Note(x.packet, x.cut, x.id)
	return x.outs(), api.OK
}

// mayReach says whether an address is one that a host sends to.
func (h *Host) mayReach(dst api.Addr) bool {
	return addr.Kind(dst) == api.Plain && !h.isOwn(dst)
}

// mayFlag says whether packets of a version have what the flags ask for.
func mayFlag(version int, f api.Flags) bool {
	return version == 4 || !f.NoSum && len(f.Opts) == 0
}

// room is how many bytes of data one packet takes.
func room(version int, f api.Flags) int {
	if version == 6 {
		return api.MaxData6
	}
	return api.MaxData4 - len(f.Opts)
}

// sourceOf is the address that a socket sends from; false: it has none.
func (h *Host) sourceOf(bound api.Addr) (api.Addr, bool) {
	if addr.Kind(bound) != api.Unspecified {
		return bound, true
	}
	for _, a := range h.own {
		if a.V == bound.V {
			return a, true
		}
	}
	return api.Addr{}, false
}

// tell sends a message from an own address to another; it is not remembered.
func (h *Host) tell(src, dst api.Addr, m api.Message) []api.Out {
	way, leads := h.pathTo(dst)
	if !leads || !h.mayReach(dst) {
		return nil
	}
	p := packet(src, dst, protoICMP(src.V))
	p.Data, _ = icmp.Build(src, dst, m)
	x, e := h.identified(p, way)
	if e != api.OK {
		return nil
	}
	return x.outs()
}

// packet is one that a host sends, but for what it carries.
func packet(src, dst api.Addr, proto int) api.Packet {
	return api.Packet{V: src.V, Src: src, Dst: dst, Proto: proto, TTL: life}
}

// protoICMP is the number of a version's ICMP.
func protoICMP(version int) int {
	if version == 6 {
		return api.ProtoICMP6
	}
	return api.ProtoICMP
}

// sending is a packet that goes out.
type sending struct {
	packet api.Packet
	way    path
	id     uint32 // for the fragments of version 6
	cut    bool   // of version 6, which has an identification only then
}

// identified takes the identification that a packet needs.
func (h *Host) identified(p api.Packet, way path) (sending, api.Errno) {
	if p.V == 4 {
		id, e := h.ids4.Next(h.now)
		p.ID = id
		return sending{packet: p, way: way}, e
	}
	if lengthOf(p) <= way.estimate {
		return sending{packet: p, way: way}, api.OK
	}
	id, e := h.ids6.Next(h.now)
	return sending{packet: p, way: way, id: id, cut: true}, e
}

// outs is the packet, cut for its way, as it goes over the link.
func (x sending) outs() []api.Out {
	pieces, _ := cut.Cut(x.packet, x.way.estimate, x.id)
	var l []api.Out
	for _, p := range pieces {
		l = append(l, api.Out{Link: x.way.link, Bytes: bytesOf(p)})
	}
	return l
}

// lengthOf is how many bytes a right packet has. None is right in both versions: one of the heads is 0.
func lengthOf(p api.Packet) int { return ip4.Head(p) + ip6.Head(p) + len(p.Data) }

// bytesOf are the bytes of a right packet.
func bytesOf(p api.Packet) []byte {
	if p.V == 6 {
		b, _ := ip6.Build(p)
		return b
	}
	b, _ := ip4.Build(p)
	return b
}
