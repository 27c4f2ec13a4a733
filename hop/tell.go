package hop

import (
	"mosaic/addr"
	"mosaic/api"
	"mosaic/icmp"
)

// life is the TTL of a message.
const life = 64

// asked is which message a reason asks for.
type asked int

const (
	silence asked = iota
	timeUp
	noRoute
	tooBig
)

// reason is an error: why a packet does not go on, and what its sender should be told.
type reason struct {
	cause api.Errno
	asks  asked
	mtu   int // of the link that is too small, where tooBig is asked for
}

func (r reason) Error() string { return "not sent on: " + r.cause.Error() }

func (r reason) Unwrap() error { return r.cause }

// message is the one that is asked for, about a packet's bytes; false: none is.
func (r reason) message(b []byte) (api.Message, bool) {
	var m api.Message
	e := api.ErrArg
	switch r.asks {
	case timeUp:
		m, e = icmp.TimeUp(b)
	case noRoute:
		m, e = icmp.NoRoute(b)
	case tooBig:
		m, e = icmp.TooBig(b, r.mtu)
	}
	return m, e == api.OK
}

// tell is what the source of a packet with these bytes is told, as it goes out.
func (h *Hop) tell(r reason, p api.Packet, b []byte) []api.Out {
	m, is := r.message(b)
	src, has := h.source(p.V)
	link, e := h.linkTo(p.Src)
	if !is || !has || e != api.OK || !h.mayTell(p) {
		return nil
	}
	q := api.Packet{V: p.V, Src: src, Dst: p.Src, Proto: protoICMP(p.V), TTL: life}
	q.Data, _ = icmp.Build(q.Src, q.Dst, m)
	if q.V == 4 {
		q.ID = uint32(h.counter)
		h.counter++
	}
	l, _ := h.over(link, q) // it has no DF, and one of version 6 is never too long
	return l
}

// mayTell says whether a packet is one about which something may be told to its source.
func (h *Hop) mayTell(p api.Packet) bool {
	return addr.Kind(p.Src) == api.Plain && !h.isOwn(p.Src) && p.Off == 0 && !mayBeError(p)
}

// mayBeError says whether a packet begins an ICMP error, or is too short to tell: about such a one nothing is told, lest errors beget errors.
func mayBeError(p api.Packet) bool {
	if p.Proto != protoICMP(p.V) {
		return false
	}
	return len(p.Data) == 0 || icmp.IsError(api.Message{V: p.V, Type: int(p.Data[0])})
}

// source is the least own address of a version; false: there is none.
func (h *Hop) source(version int) (api.Addr, bool) {
	var least api.Addr
	for _, a := range h.own {
		if a.V == version && (least.V == 0 || addr.Less(a, least)) {
			least = a
		}
	}
	return least, least.V != 0
}

// protoICMP is the number of a version's ICMP.
func protoICMP(version int) int {
	if version == 6 {
		return api.ProtoICMP6
	}
	return api.ProtoICMP
}
