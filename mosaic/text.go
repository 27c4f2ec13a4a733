package mosaic

import (
	"slices"

	"mosaic/api"
	"mosaic/net"
)

// plan is a world's text, as far as it has been read.
type plan struct {
	nodes []node
	links []net.Link
}

// node is a host, or a router, which has of a host's configuration just the addresses, the links and the routes.
type node struct {
	api.HostConfig
	router bool
	said   []string // which of the lines that stand once a host at most were there
}

// configOf is the configuration of a world's text; ErrLine: the line of this number may not be.
func configOf(text string) (net.Config, int, api.Errno) {
	lines, e := linesOf(text)
	if e != api.OK {
		return net.Config{}, 1, e
	}
	var p plan
	for i, line := range lines {
		if e := readLine(line, p.read); e != api.OK {
			return net.Config{}, i + 1, e
		}
	}
	return p.config(), 0, api.OK
}

// read goes on by a line.
func (p *plan) read(r *words) {
	word := r.word()
	must(word == "link" || len(p.links) == 0)
	switch word {
	case "addr":
		n := p.last()
		n.Addrs = append(n.Addrs, r.address())
	case "route":
		n := p.last()
		n.Routes = append(n.Routes, api.Route{Net: r.address(), Bits: r.number(), Link: r.number()})
	default:
		p.readNumbers(word, r.numbers(word))
	}
}

// readNumbers goes on by a line of numbers alone.
func (p *plan) readNumbers(word string, n []int) {
	switch word {
	case "host":
		must(len(p.nodes) == 0 || !p.last().router)
		p.nodes = append(p.nodes, node{HostConfig: plainHost()})
	case "hop":
		p.nodes = append(p.nodes, node{router: true})
	case "link":
		p.links = append(p.links, net.Link{A: n[0], LinkA: n[1], B: n[2], LinkB: n[3], MTU: n[4]})
	default:
		p.last().limit(word, n)
	}
}

// last is the node that began last.
func (p *plan) last() *node {
	must(len(p.nodes) > 0)
	return &p.nodes[len(p.nodes)-1]
}

// plainHost is a host of which nothing is said.
func plainHost() api.HostConfig {
	return api.HostConfig{
		Quota:   api.Quota{Entries: 16, Bytes: 131072, Holes: 8192, Timeout: 60},
		Paths:   api.Paths{Entries: 16, Age: 600},
		Window:  16,
		Queue:   16,
		Bytes:   131072,
		Sockets: 16,
	}
}

// limit sets one of a host's bounds, which are said once at most.
func (h *node) limit(word string, n []int) {
	must(!h.router && !slices.Contains(h.said, word))
	h.said = append(h.said, word)
	switch word {
	case "quota":
		h.Quota = api.Quota{Entries: n[0], Bytes: n[1], Holes: n[2], Timeout: int64(n[3])}
	case "paths":
		h.Paths = api.Paths{Entries: n[0], Age: int64(n[1])}
	case "window":
		h.Window = n[0]
	case "queue":
		h.Queue, h.Bytes = n[0], n[1]
	case "sockets":
		h.Sockets = n[0]
	case "life":
		h.Life = int64(n[0])
	default:
		panic(api.ErrLine) // a command's word
	}
}

func (p *plan) config() net.Config {
	for _, l := range p.links {
		p.join(l.A, l.LinkA, l.MTU)
		p.join(l.B, l.LinkB, l.MTU)
	}
	c := net.Config{Links: p.links}
	for _, n := range p.nodes {
		if n.router {
			c.Hops = append(c.Hops, api.HopConfig{Addrs: n.Addrs, Links: n.Links, Routes: n.Routes})
		} else {
			c.Hosts = append(c.Hosts, n.HostConfig)
		}
	}
	return c
}

// join gives a node's link its MTU. Where there is no such node, or no node may have such a link, net refuses the world by the link itself: no room is made for a number of any size.
func (p *plan) join(node, link, mtu int) {
	if node >= len(p.nodes) || link >= api.MaxLinks {
		return
	}
	n := &p.nodes[node]
	for len(n.Links) <= link {
		n.Links = append(n.Links, 0)
	}
	n.Links[link] = mtu
}
