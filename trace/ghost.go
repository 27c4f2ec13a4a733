package trace

import (
	"slices"

	"mosaic/api"
	"mosaic/ip4"
	"mosaic/ip6"
	"mosaic/net"
)

// ghost is what stands beside the packets of the flight.
type ghost struct {
	given  int // how many numbers are
	places []place
	keys   keys
}

// place is a packet of the flight: its number, and the node to which it goes.
type place struct {
	number int
	node   int
	head   head
}

// head is what counts of a packet. That of bytes that are none has the zero key.
type head struct {
	key      api.Key
	off      int
	fragment bool
}

func placeOf(x net.Way, number int) place {
	return place{number: number, node: x.Node, head: headOf(x.Bytes)}
}

func headOf(b []byte) head {
	p, e := ip4.Parse(b)
	if e != api.OK {
		p, e = ip6.Parse(b)
	}
	if e != api.OK {
		return head{}
	}
	return head{
		key:      api.Key{V: p.V, Src: p.Src, Dst: p.Dst, Proto: p.Proto, ID: p.ID},
		off:      p.Off,
		fragment: p.Off > 0 || p.More,
	}
}

// next gives a number.
func (g *ghost) next() int {
	g.given++
	return g.given
}

func (g *ghost) has(k int) bool { return k >= 0 && k < len(g.places) }

// put lets a packet stand at a place, ahead of the one that is there.
func (g *ghost) put(k int, x place) {
	g.places = slices.Insert(g.places, k, x)
	if x.head.fragment {
		g.keys.enter(x.head.key, x.number)
	}
}

// add puts a packet behind all others.
func (g *ghost) add(x place) { g.put(len(g.places), x) }

// take lets a packet leave.
func (g *ghost) take(k int) place {
	x := g.places[k]
	g.places = slices.Delete(g.places, k, k+1)
	if x.head.fragment {
		g.keys.leave(x.head.key)
	}
	return x
}

func (g *ghost) swap(k, j int) {
	if g.has(j) { // it is missing just where the world beneath was moved itself
		g.places[k], g.places[j] = g.places[j], g.places[k]
	}
}

// keys says which number each key has, among the fragments under way and the datagrams in the making. From the first key with two numbers on it says just that there was one.
type keys struct {
	claims  map[api.Key]claim
	unclear bool
}

// claim is a key's number, and how many fragments and datagrams have it.
type claim struct{ number, count int }

// enter notes one more fragment or datagram. By each move first all leaves that is to leave: so what stands beside one another here does so behind the move, too.
func (s *keys) enter(k api.Key, number int) {
	if s.unclear {
		return
	}
	c := s.claims[k]
	if c.count > 0 && c.number != number {
		s.unclear, s.claims = true, nil
		return
	}
	s.claims[k] = claim{number, c.count + 1}
}

// leave notes one less.
func (s *keys) leave(k api.Key) {
	if c := s.claims[k]; c.count > 1 {
		s.claims[k] = claim{c.number, c.count - 1}
	} else {
		delete(s.claims, k)
	}
}
