package net

import (
	"slices"

	"mosaic/api"
	"mosaic/hop"
	"mosaic/host"
)

// alone stands for the node at the other end of a link that joins nothing yet.
const alone = -1

// asked is what a request asks for.
type asked int

const (
	askCall   asked = iota // a move that is a call of a host
	askPacket              // to take a packet that comes in
	askTick                // of a host: to let time pass
	askState               // of a host: what it holds
)

type request struct {
	what   asked
	move   api.Move
	packet []byte
	now    int64
}

type reply struct {
	answer api.Answer
	outs   []api.Out
	state  State
}

// server is a host or a router, as its worker sees it.
type server interface {
	serve(r request) reply
}

// node is a place of the world. While it has a worker, nobody else touches what serves.
type node struct {
	server
	peers    []int // the node at the other end of each link, by its number
	requests chan request
	replies  chan reply
}

// work serves what is asked, one request behind the other, until done is closed.
func (n *node) work(done <-chan struct{}) {
	for {
		select {
		case r := <-n.requests:
			n.replies <- n.serve(r)
		case <-done:
			return
		}
	}
}

type hostServer struct{ host *host.Host }

func (s hostServer) serve(r request) reply {
	switch r.what {
	case askCall:
		return s.call(r.move)
	case askPacket:
		return reply{outs: s.host.Packet(r.packet)}
	case askTick:
		outs, e := s.host.Tick(r.now)
		return reply{answer: api.Answer{Code: e}, outs: outs}
	}
	return reply{state: s.state()}
}

func (s hostServer) call(m api.Move) reply {
	var r reply
	a := &r.answer
	switch m.Kind {
	case api.MvBind:
		a.N, a.Port, a.Code = s.host.Bind(m.Addr, m.Port)
	case api.MvShut:
		a.Code = s.host.Close(m.Socket)
	case api.MvSend:
		r.outs, a.Code = s.host.Send(m.Socket, m.Addr, m.Port, m.Data, m.Flags)
	case api.MvRecv:
		a.Got, a.Code = s.host.Recv(m.Socket)
	case api.MvEstimate:
		a.N, a.Code = s.host.Estimate(m.Addr)
	}
	return r
}

func (s hostServer) state() State {
	t := s.host.State()
	return State{Sockets: t.Sockets, Queues: t.Queues, Keys: t.Keys, Bytes: t.Bytes, Paths: t.Paths}
}

type hopServer struct{ hop *hop.Hop }

// serve takes a packet: a router is asked for nothing else.
func (s hopServer) serve(r request) reply { return reply{outs: s.hop.Packet(r.packet)} }

// nodesOf are the nodes of a world, no two of them joined; false: they may not be.
func nodesOf(c Config) ([]*node, bool) {
	if n := len(c.Hosts) + len(c.Hops); n < 1 || n > api.MaxNodes {
		return nil, false
	}
	var l []*node
	for _, x := range c.Hosts {
		h, e := host.New(x)
		if e != api.OK {
			return nil, false
		}
		l = append(l, newNode(hostServer{h}, len(x.Links)))
	}
	for _, x := range c.Hops {
		h, e := hop.New(x)
		if e != api.OK {
			return nil, false
		}
		l = append(l, newNode(hopServer{h}, len(x.Links)))
	}
	return l, true
}

func newNode(s server, links int) *node {
	return &node{
		server:   s,
		peers:    slices.Repeat([]int{alone}, links),
		requests: make(chan request),
		replies:  make(chan reply),
	}
}

// join lays the links between nodes; false: they may not be so.
func join(nodes []*node, c Config) bool {
	mtus := mtusOf(c)
	for _, l := range c.Links {
		if l.A == l.B || !mayEnd(mtus, l.A, l.LinkA, l.MTU) || !mayEnd(mtus, l.B, l.LinkB, l.MTU) {
			return false
		}
		a, b := &nodes[l.A].peers[l.LinkA], &nodes[l.B].peers[l.LinkB]
		if *a != alone || *b != alone {
			return false
		}
		*a, *b = l.B, l.A
	}
	return !slices.ContainsFunc(nodes, func(n *node) bool { return slices.Contains(n.peers, alone) })
}

// mtusOf are the MTUs of links as the nodes have them: by node, then by the link's number.
func mtusOf(c Config) [][]int {
	var l [][]int
	for _, x := range c.Hosts {
		l = append(l, x.Links)
	}
	for _, x := range c.Hops {
		l = append(l, x.Links)
	}
	return l
}

// mayEnd says whether a link of this MTU may end at a node's link number.
func mayEnd(mtus [][]int, node, link, mtu int) bool {
	return node >= 0 && node < len(mtus) && link >= 0 && link < len(mtus[node]) && mtus[node][link] == mtu
}
