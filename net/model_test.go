package net

import (
	"bytes"
	"slices"
	"testing"

	"mosaic/api"
	"mosaic/hop"
	"mosaic/host"
	"mosaic/ip4"
	"mosaic/recut"
)

// model is the chapter's words, one call behind the other: its nodes are called as they are, and each flight is a new list.
type model struct {
	c      Config
	hosts  []*host.Host
	hops   []*hop.Hop
	flight []Way
	lost   int
	now    int64
}

func newModel(t *testing.T, c Config) *model {
	t.Helper()
	m := &model{c: c}
	for _, x := range c.Hosts {
		h, e := host.New(x)
		if e != api.OK {
			t.Fatalf("a host is refused: %+v", x)
		}
		m.hosts = append(m.hosts, h)
	}
	for _, x := range c.Hops {
		h, e := hop.New(x)
		if e != api.OK {
			t.Fatalf("a router is refused: %+v", x)
		}
		m.hops = append(m.hops, h)
	}
	return m
}

func (m *model) nodes() int { return len(m.hosts) + len(m.hops) }

// far is the node at the other end of a node's link.
func (m *model) far(node, link int) int {
	for _, l := range m.c.Links {
		if l.A == node && l.LinkA == link {
			return l.B
		}
		if l.B == node && l.LinkB == link {
			return l.A
		}
	}
	panic("no such link")
}

func (m *model) emit(node int, l []api.Out) {
	for _, o := range l {
		m.behind(Way{Node: m.far(node, o.Link), Bytes: o.Bytes})
	}
}

func (m *model) behind(x Way) {
	if len(m.flight) == 16384 {
		m.lost++
		return
	}
	m.flight = append(slices.Clip(m.flight), x)
}

// do is the answer to a move.
func (m *model) do(v api.Move) api.Answer {
	switch v.Kind {
	case api.MvBind, api.MvShut, api.MvSend, api.MvRecv, api.MvEstimate:
		if v.Node < 0 || v.Node >= len(m.hosts) {
			return api.Answer{Code: api.ErrNode}
		}
		return m.call(m.hosts[v.Node], v)
	case api.MvInject:
		if v.Node < 0 || v.Node >= m.nodes() {
			return api.Answer{Code: api.ErrNode}
		}
		if len(v.Data) > 65575 {
			return api.Answer{Code: api.ErrLong}
		}
		m.behind(Way{Node: v.Node, Bytes: bytes.Clone(v.Data)})
		return api.Answer{}
	case api.MvTick:
		if m.now == 1<<40 {
			return api.Answer{Code: api.ErrArg}
		}
		m.now++
		for n, h := range m.hosts {
			l, _ := h.Tick(m.now)
			m.emit(n, l)
		}
		return api.Answer{}
	case api.MvForward, api.MvDrop, api.MvTwin, api.MvSwap, api.MvSpoil, api.MvRecut:
		if v.K < 0 || v.K >= len(m.flight) {
			return api.Answer{Code: api.ErrNode}
		}
		return api.Answer{Code: m.atPlace(v)}
	}
	return api.Answer{Code: api.ErrArg}
}

func (m *model) call(h *host.Host, v api.Move) api.Answer {
	var a api.Answer
	switch v.Kind {
	case api.MvBind:
		a.N, a.Port, a.Code = h.Bind(v.Addr, v.Port)
	case api.MvShut:
		a.Code = h.Close(v.Socket)
	case api.MvSend:
		l, e := h.Send(v.Socket, v.Addr, v.Port, v.Data, v.Flags)
		m.emit(v.Node, l)
		a.Code = e
	case api.MvRecv:
		a.Got, a.Code = h.Recv(v.Socket)
	case api.MvEstimate:
		a.N, a.Code = h.Estimate(v.Addr)
	}
	if a.Code != api.OK {
		return api.Answer{Code: a.Code}
	}
	return a
}

func (m *model) atPlace(v api.Move) api.Errno {
	ahead, x, behind := m.flight[:v.K:v.K], m.flight[v.K], m.flight[v.K+1:]
	switch v.Kind {
	case api.MvForward:
		m.flight = slices.Concat(ahead, behind)
		if x.Node < len(m.hosts) {
			m.emit(x.Node, m.hosts[x.Node].Packet(x.Bytes))
		} else {
			m.emit(x.Node, m.hops[x.Node-len(m.hosts)].Packet(x.Bytes))
		}
	case api.MvDrop:
		m.flight = slices.Concat(ahead, behind)
	case api.MvTwin:
		if len(m.flight) == 16384 {
			m.lost++
		} else {
			m.flight = slices.Concat(ahead, []Way{x, x}, behind)
		}
	case api.MvSwap:
		if v.J < 0 || v.J >= len(m.flight) {
			return api.ErrNode
		}
		l := slices.Clone(m.flight)
		l[v.K], l[v.J] = m.flight[v.J], m.flight[v.K]
		m.flight = l
	case api.MvSpoil:
		if v.J < 0 || v.J >= len(x.Bytes) || v.Mask < 1 || v.Mask > 255 {
			return api.ErrArg
		}
		b := slices.Concat(x.Bytes[:v.J], []byte{x.Bytes[v.J] ^ byte(v.Mask)}, x.Bytes[v.J+1:])
		m.flight = slices.Concat(ahead, []Way{{Node: x.Node, Bytes: b}}, behind)
	case api.MvRecut:
		p, e := ip4.Parse(x.Bytes)
		if e != api.OK {
			return api.ErrArg
		}
		pieces, e := recut.Recut(p, v.J)
		if e != api.OK {
			return e
		}
		l := ahead
		for _, q := range pieces {
			if len(l)+len(behind) == 16384 {
				m.lost++
				continue
			}
			b, _ := ip4.Build(q)
			l = append(l, Way{Node: x.Node, Bytes: b})
		}
		m.flight = slices.Concat(l, behind)
	}
	return api.OK
}

func (m *model) state(n int) (State, api.Errno) {
	if n < 0 || n >= len(m.hosts) {
		return State{}, api.ErrNode
	}
	s := m.hosts[n].State()
	return State{Sockets: s.Sockets, Queues: s.Queues, Keys: s.Keys, Bytes: s.Bytes, Paths: s.Paths}, api.OK
}
