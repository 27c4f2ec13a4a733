package net

import (
	"bytes"
	"math"
	"slices"
	"testing"

	"mosaic/api"
	"mosaic/ip4"
	"mosaic/recut"
)

var wild = []int{math.MinInt, math.MinInt + 1, -65536, -2, -1, 0, 1, 2, 3, 4, 5, 67, 68, 255, 256, 65535, 65536, math.MaxInt - 1, math.MaxInt}

// laden is the examples' world with four packets under way, to the nodes 2, 2, 0 and 1.
func laden(t *testing.T) *World {
	t.Helper()
	w := begun(t)
	sends(t, w, four(1, 1), 7, 100, api.Flags{})
	sends(t, w, four(1, 1), 7, 100, api.Flags{DF: true})
	does(t, w, api.Move{Kind: api.MvInject, Node: 0, Data: []byte{9, 8, 7}}, api.OK)
	does(t, w, api.Move{Kind: api.MvInject, Node: 1}, api.OK)
	ways(t, w, [2]int{2, 128}, [2]int{2, 128}, [2]int{0, 3}, [2]int{1, 0})
	return w
}

// stays: a move that is refused with this code changes nothing.
func stays(t *testing.T, w *World, m api.Move, code api.Errno) {
	t.Helper()
	flight, lost, now := w.Flight(), w.Lost(), w.Now()
	var states []State
	for n := range w.hosts {
		s, _ := w.State(n)
		states = append(states, s)
	}
	does(t, w, m, code)
	if !sameFlight(w.Flight(), flight) || w.Lost() != lost || w.Now() != now {
		t.Fatalf("P24.3: Do(%+v), refused, changed the flight, what is lost or the tick", brief(m))
	}
	for n, was := range states {
		if s, e := w.State(n); e != api.OK || !sameState(s, was) {
			t.Fatalf("P24.3: Do(%+v), refused, changed host %d: %+v; was %+v", brief(m), n, s, was)
		}
	}
}

// P24.3: a kind that is none.
func TestWildKinds(t *testing.T) {
	w := laden(t)
	for _, n := range append(wild, 14, 15, 99) {
		if n < api.MvBind || n > api.MvTick {
			stays(t, w, api.Move{Kind: n, Socket: 1, Addr: four(1, 1), Port: 7, Mask: 1}, api.ErrArg)
		}
	}
}

// P24.3: a node that is no host's, of all that hosts are called for; a router is none.
func TestWildHosts(t *testing.T) {
	w := laden(t)
	for _, kind := range []int{api.MvBind, api.MvShut, api.MvSend, api.MvRecv, api.MvEstimate} {
		for _, n := range wild {
			if n < 0 || n > 1 {
				stays(t, w, api.Move{Kind: kind, Node: n, Socket: 1, Addr: four(1, 1), Port: 7}, api.ErrNode)
			}
		}
	}
	for _, n := range wild {
		s, e := w.State(n)
		if n == 0 || n == 1 {
			if e != api.OK || len(s.Sockets) != n+1 {
				t.Errorf("P24.4: State(%d) = %+v, %d", n, s, e)
			}
		} else if e != api.ErrNode || !sameState(s, State{}) {
			t.Errorf("P24.4: State(%d) = %+v, %d", n, s, e)
		}
	}
}

// P24.3: a place that is none; K's error is ahead of J's and of Mask's.
func TestWildPlaces(t *testing.T) {
	w := laden(t)
	for _, kind := range []int{api.MvForward, api.MvDrop, api.MvTwin, api.MvSwap, api.MvSpoil, api.MvRecut} {
		for _, k := range wild {
			if k >= 0 && k <= 3 {
				continue
			}
			for _, j := range []int{-1, 0, 68, 65536} {
				for _, mask := range []int{-1, 0, 1} {
					stays(t, w, api.Move{Kind: kind, K: k, J: j, Mask: mask}, api.ErrNode)
				}
			}
		}
	}
	for _, j := range wild {
		if j < 0 || j > 3 {
			for k := range 4 {
				stays(t, w, api.Move{Kind: api.MvSwap, K: k, J: j}, api.ErrNode)
			}
		}
	}
}

// P24.3: fields that a move does not name are not looked at.
func TestOtherFields(t *testing.T) {
	for _, n := range wild {
		w := laden(t)
		for range 2 {
			does(t, w, api.Move{Kind: api.MvBind, K: n, J: n, Mask: n, Socket: n, Addr: any4, Data: make([]byte, 70000), Flags: api.Flags{Opts: []byte{9}}}, api.OK)
		}
		does(t, w, api.Move{Kind: api.MvShut, Socket: 2, K: n, J: n, Mask: n, Port: n, Addr: api.Addr{V: n}}, api.OK)
		does(t, w, api.Move{Kind: api.MvSend, Socket: 1, Addr: four(1, 1), Port: 7, K: n, J: n, Mask: n}, api.OK)
		does(t, w, api.Move{Kind: api.MvEstimate, Addr: four(1, 1), Socket: n, Port: n, K: n, J: n, Mask: n}, api.OK)
		does(t, w, api.Move{Kind: api.MvRecv, Socket: 1, Port: n, K: n, J: n, Mask: n, Addr: api.Addr{V: n}}, api.ErrEmpty)
		rest := api.Move{Node: n, Socket: n, Port: n, J: n, Mask: n, Addr: api.Addr{V: n}, Data: make([]byte, 70000), Flags: api.Flags{Opts: []byte{9}}}
		for _, kind := range []int{api.MvTwin, api.MvDrop, api.MvForward} {
			m := rest
			m.Kind = kind
			does(t, w, m, api.OK)
		}
		m := rest
		m.Kind, m.K, m.J = api.MvTick, n, n
		does(t, w, m, api.OK)
		m.Kind, m.K, m.J = api.MvSwap, 0, 1
		does(t, w, m, api.OK)
		m.Kind, m.K, m.J, m.Mask = api.MvSpoil, 1, 2, 128
		does(t, w, m, api.OK)
		m = api.Move{Kind: api.MvInject, Node: 1, Socket: n, Port: n, K: n, J: n, Mask: n, Addr: api.Addr{V: n}}
		does(t, w, m, api.OK)
		m = rest
		m.Kind, m.K, m.J = api.MvRecut, 4, 68
		does(t, w, m, api.OK)
	}
}

// P24.3: what a host refuses changes no flight; its error is told.
func TestHostsErrors(t *testing.T) {
	w := laden(t)
	for _, row := range []struct {
		m    api.Move
		code api.Errno
	}{
		{api.Move{Kind: api.MvBind, Addr: four(0, 2)}, api.ErrArg},
		{api.Move{Kind: api.MvBind, Addr: four(0, 1), Port: 1000}, api.ErrInUse},
		{api.Move{Kind: api.MvBind, Addr: four(0, 1), Port: 65536}, api.ErrArg},
		{api.Move{Kind: api.MvShut, Socket: 2}, api.ErrArg},
		{api.Move{Kind: api.MvShut}, api.ErrArg},
		{api.Move{Kind: api.MvRecv, Socket: 2}, api.ErrArg},
		{api.Move{Kind: api.MvRecv, Socket: 1}, api.ErrEmpty},
		{api.Move{Kind: api.MvEstimate, Addr: api.Addr{V: 5}}, api.ErrArg},
		{api.Move{Kind: api.MvEstimate, Addr: six(1, 1)}, api.ErrRoute},
		{api.Move{Kind: api.MvSend, Socket: 2, Addr: four(1, 1), Port: 7}, api.ErrArg},
		{api.Move{Kind: api.MvSend, Socket: 1, Addr: four(0, 1), Port: 7}, api.ErrArg},
		{api.Move{Kind: api.MvSend, Socket: 1, Addr: four(1, 1), Port: 0}, api.ErrArg},
		{api.Move{Kind: api.MvSend, Socket: 1, Addr: four(1, 1), Port: 7, Flags: api.Flags{Opts: []byte{1}}}, api.ErrOpt},
		{api.Move{Kind: api.MvSend, Socket: 1, Addr: four(1, 1), Port: 7, Data: make([]byte, 65508)}, api.ErrLong},
		{api.Move{Kind: api.MvSend, Socket: 1, Addr: api.Addr{V: 4, B: [16]byte{11, 0, 0, 1}}, Port: 7}, api.ErrRoute},
		{api.Move{Kind: api.MvSend, Socket: 1, Addr: four(1, 1), Port: 7, Data: make([]byte, 1473), Flags: api.Flags{DF: true}}, api.ErrBig},
	} {
		stays(t, w, row.m, row.code)
	}
}

// P24.3: binding, the port that is given out, closing.
func TestSockets(t *testing.T) {
	w := begun(t)
	if a := does(t, w, api.Move{Kind: api.MvBind, Node: 0, Addr: any4}, api.OK); !sameAnswer(a, api.Answer{N: 2, Port: 49152}) {
		t.Errorf("P24.3: bind: %+v", a)
	}
	if a := does(t, w, api.Move{Kind: api.MvShut, Node: 0, Socket: 2}, api.OK); !sameAnswer(a, api.Answer{}) {
		t.Errorf("P24.3: shut: %+v", a)
	}
	if a := does(t, w, api.Move{Kind: api.MvBind, Node: 0, Addr: any6}, api.OK); !sameAnswer(a, api.Answer{N: 3, Port: 49152}) {
		t.Errorf("P24.3: bind: %+v", a)
	}
	for n, want := range [][]int{{1, 3}, {1, 2}} {
		if s, e := w.State(n); e != api.OK || !slices.Equal(s.Sockets, want) || !slices.Equal(s.Queues, []int{0, 0}) {
			t.Errorf("P24.4: State(%d) = %+v, %d", n, s, e)
		}
	}
	sends(t, w, four(1, 1), 7, 5, api.Flags{})
	does(t, w, api.Move{Kind: api.MvShut, Node: 1, Socket: 2}, api.OK)
	forwards(t, w, 0, 0)
	if s, _ := w.State(1); !slices.Equal(s.Sockets, []int{1}) || !slices.Equal(s.Queues, []int{1}) {
		t.Errorf("P24.4: State(1) = %+v", s)
	}
	receives(t, w, 1, 5)
}

// P24.3: drop, twin and swap at each place.
func TestPlaces(t *testing.T) {
	for k := range 4 {
		w := laden(t)
		was := w.Flight()
		does(t, w, api.Move{Kind: api.MvDrop, K: k}, api.OK)
		if want := slices.Concat(was[:k], was[k+1:]); !sameFlight(w.Flight(), want) || w.Lost() != 0 {
			t.Errorf("P24.3: drop %d: %v; want %v", k, w.Flight(), want)
		}
		w = laden(t)
		does(t, w, api.Move{Kind: api.MvTwin, K: k}, api.OK)
		if want := slices.Concat(was[:k+1], was[k:]); !sameFlight(w.Flight(), want) || w.Lost() != 0 {
			t.Errorf("P24.3: twin %d: %v; want %v", k, w.Flight(), want)
		}
		for j := range 4 {
			w = laden(t)
			does(t, w, api.Move{Kind: api.MvSwap, K: k, J: j}, api.OK)
			want := slices.Clone(was)
			want[k], want[j] = was[j], was[k]
			if !sameFlight(w.Flight(), want) {
				t.Errorf("P24.3: swap %d %d: %v; want %v", k, j, w.Flight(), want)
			}
		}
	}
}

// P24.3: each byte of a packet in each mask; a twin is not spoilt along.
func TestSpoil(t *testing.T) {
	w := laden(t)
	does(t, w, api.Move{Kind: api.MvTwin, K: 2}, api.OK)
	want := []byte{9, 8, 7}
	for mask := 1; mask < 256; mask++ {
		for j := range 3 {
			does(t, w, api.Move{Kind: api.MvSpoil, K: 2, J: j, Mask: mask}, api.OK)
			want[j] ^= byte(mask)
			if l := w.Flight(); !sameWay(l[2], Way{Bytes: want}) || !sameWay(l[3], Way{Bytes: []byte{9, 8, 7}}) {
				t.Fatalf("P24.3: spoil %d %d: %v", j, mask, l[2:4])
			}
		}
	}
	for _, n := range wild {
		if n < 0 || n > 2 {
			stays(t, w, api.Move{Kind: api.MvSpoil, K: 2, J: n, Mask: 1}, api.ErrArg)
		}
		if n < 1 || n > 255 {
			stays(t, w, api.Move{Kind: api.MvSpoil, K: 2, J: 1, Mask: n}, api.ErrArg)
		}
		stays(t, w, api.Move{Kind: api.MvSpoil, K: 4, J: n, Mask: 1}, api.ErrArg) // it has no byte
	}
}

// P24.3: inject to each node, and as long as may be.
func TestInject(t *testing.T) {
	w := laden(t)
	for _, n := range wild {
		if n < 0 || n > 2 {
			stays(t, w, api.Move{Kind: api.MvInject, Node: n}, api.ErrNode)
			stays(t, w, api.Move{Kind: api.MvInject, Node: n, Data: make([]byte, 65576)}, api.ErrNode)
			continue
		}
		was := w.Flight()
		for _, size := range []int{0, 1, 65575} {
			does(t, w, api.Move{Kind: api.MvInject, Node: n, Data: pattern(size)}, api.OK)
			was = append(was, Way{Node: n, Bytes: pattern(size)})
		}
		stays(t, w, api.Move{Kind: api.MvInject, Node: n, Data: make([]byte, 65576)}, api.ErrLong)
		if !sameFlight(w.Flight(), was) {
			t.Errorf("P24.3: inject to %d", n)
		}
	}
	for range 3 * 3 {
		forwards(t, w, 4)
	}
	ways(t, w, [2]int{2, 128}, [2]int{2, 128}, [2]int{0, 3}, [2]int{1, 0})
}

// P24.3: recut of packets and of what is none, for every kind of MTU.
func TestRecut(t *testing.T) {
	w := laden(t)
	for _, n := range wild {
		for _, k := range []int{2, 3} {
			stays(t, w, api.Move{Kind: api.MvRecut, K: k, J: n}, api.ErrArg)
		}
		if n < 68 || n > 65535 {
			stays(t, w, api.Move{Kind: api.MvRecut, K: 0, J: n}, api.ErrArg)
		}
	}
	stays(t, w, api.Move{Kind: api.MvRecut, K: 1, J: 127}, api.ErrBig)
	was := w.Flight()
	for k := range 2 {
		for _, mtu := range []int{128, 129, 65535} {
			does(t, w, api.Move{Kind: api.MvRecut, K: k, J: mtu}, api.OK)
			if !sameFlight(w.Flight(), was) {
				t.Fatalf("P24.3: recut of a packet that fits: %v", w.Flight())
			}
		}
	}
	for mtu := 68; mtu < 128; mtu++ {
		w := laden(t)
		does(t, w, api.Move{Kind: api.MvSwap, K: 0, J: 1}, api.OK)
		does(t, w, api.Move{Kind: api.MvRecut, K: 1, J: mtu}, api.OK)
		pieces, _ := recut.Recut(taken(t, was[0].Bytes), mtu)
		want := []Way{was[1]}
		for _, p := range pieces {
			b, _ := ip4.Build(p)
			want = append(want, Way{Node: 2, Bytes: b})
		}
		if want = append(want, was[2:]...); !sameFlight(w.Flight(), want) || w.Lost() != 0 {
			t.Fatalf("P24.3: recut for %d: %v; want %v", mtu, w.Flight(), want)
		}
	}
}

// P24.3: a packet of version 6 is none of IPv4.
func TestRecutOfVersion6(t *testing.T) {
	h := plainHost(1500, []api.Route{{Net: any6}}, six(0, 1))
	g := plainHost(1500, []api.Route{{Net: any6}}, six(1, 1))
	w := made(t, Config{Hosts: []api.HostConfig{h, g}, Links: []Link{{A: 0, B: 1, MTU: 1500}}})
	binds(t, w, 0, any6, 1000, 1)
	sends(t, w, six(1, 1), 7, 1000, api.Flags{})
	ways(t, w, [2]int{1, 1048})
	for _, mtu := range []int{68, 1280, 1500} {
		stays(t, w, api.Move{Kind: api.MvRecut, J: mtu}, api.ErrArg)
	}
}

// P24.3: pieces that are cut again on the way are one datagram.
func TestRecutArrives(t *testing.T) {
	w := begun(t)
	sends(t, w, four(1, 1), 7, 1400, api.Flags{})
	does(t, w, api.Move{Kind: api.MvRecut, J: 500}, api.OK)
	does(t, w, api.Move{Kind: api.MvRecut, K: 1, J: 100}, api.OK)
	does(t, w, api.Move{Kind: api.MvTwin, K: 2}, api.OK)
	for len(w.Flight()) > 0 {
		forwards(t, w, len(w.Flight())/2)
	}
	receives(t, w, 2, 1400)
	does(t, w, api.Move{Kind: api.MvRecv, Node: 1, Socket: 2}, api.ErrEmpty)
}

// A packet longer than a link is carried all the same.
func TestLongerThanALink(t *testing.T) {
	w := begun(t)
	p := api.Packet{V: 4, Src: four(1, 5), Dst: four(0, 1), Proto: 99, TTL: 9, Data: pattern(9000)}
	b, _ := ip4.Build(p)
	does(t, w, api.Move{Kind: api.MvInject, Node: 0, Data: b}, api.OK)
	does(t, w, api.Move{Kind: api.MvInject, Node: 2, Data: b}, api.OK)
	forwards(t, w, 0)
	forwards(t, w, 0)
	if l := w.Flight(); len(l) != 7 || l[0].Node != 0 || len(l[0].Bytes) != 1500 {
		t.Errorf("P24.3: %d packets", len(l))
	}
}

// P24.3: what comes goes behind all that stays, whichever packet is forwarded.
func TestForwardFromTheMiddle(t *testing.T) {
	for k := range 4 {
		w := laden(t)
		was := w.Flight()
		forwards(t, w, k)
		want := slices.Concat(was[:k], was[k+1:])
		if k < 2 {
			p := taken(t, was[k].Bytes)
			p.TTL--
			b, _ := ip4.Build(p)
			want = append(want, Way{Node: 1, Bytes: b})
		}
		if !sameFlight(w.Flight(), want) {
			t.Errorf("P24.5: forward %d: %v; want %v", k, w.Flight(), want)
		}
	}
}

// P24.3: a tick is told to all hosts in their order, and what they emit stands in it.
func TestTickInOrder(t *testing.T) {
	const n = 15
	var c Config
	hub := api.HopConfig{}
	for i := range n {
		c.Hosts = append(c.Hosts, plainHost(1500, []api.Route{{Net: any4}}, four(byte(i), 1)))
		c.Hosts[i].Quota.Timeout = 2
		hub.Links = append(hub.Links, 1500)
		c.Links = append(c.Links, Link{A: i, LinkA: 0, B: n, LinkB: i, MTU: 1500})
	}
	slices.Reverse(c.Links)
	c.Hops = []api.HopConfig{hub}
	w := made(t, c)
	for _, i := range []int{3, 14, 0, 7, 11, 1, 2, 9, 8, 13} {
		p := api.Packet{V: 4, Src: four(77, 1), Dst: four(byte(i), 1), Proto: 17, TTL: 9, More: true, Data: pattern(16)}
		b, _ := ip4.Build(p)
		does(t, w, api.Move{Kind: api.MvInject, Node: i, Data: b}, api.OK)
		forwards(t, w, 0)
	}
	does(t, w, api.Move{Kind: api.MvInject, Node: 5, Data: []byte{5}}, api.OK)
	does(t, w, api.Move{Kind: api.MvTick}, api.OK)
	ways(t, w, [2]int{5, 1})
	does(t, w, api.Move{Kind: api.MvTick}, api.OK)
	var from []int
	for _, x := range w.Flight()[1:] {
		if x.Node != n {
			t.Errorf("P24.6: a message goes to %d", x.Node)
		}
		from = append(from, int(taken(t, x.Bytes).Src.B[2]))
	}
	if !slices.Equal(from, []int{0, 1, 2, 3, 7, 8, 9, 11, 13, 14}) || w.Now() != 2 {
		t.Errorf("P24.3: at tick %d hosts %v told of late fragments", w.Now(), from)
	}
}

// P24.3: the last tick.
func TestLastTick(t *testing.T) {
	w := laden(t)
	w.now = api.MaxTick - 2 // too far to go there by ticks
	for range 2 {
		does(t, w, api.Move{Kind: api.MvTick}, api.OK)
	}
	if w.Now() != 1<<40 {
		t.Errorf("P24.4: Now() = %d", w.Now())
	}
	stays(t, w, api.Move{Kind: api.MvTick}, api.ErrArg)
	forwards(t, w, 0)
}

// full is the examples' world with a packet of 128 bytes at place 0, one of 1428 at place 1, and as many others as leave room for so many.
func full(t *testing.T, room int) *World {
	t.Helper()
	w := begun(t)
	sends(t, w, four(1, 1), 7, 100, api.Flags{})
	sends(t, w, four(1, 1), 7, 1400, api.Flags{})
	for i := range api.MaxFlight - 2 - room {
		does(t, w, api.Move{Kind: api.MvInject, Node: i % 3, Data: []byte{byte(i), byte(i >> 8)}}, api.OK)
	}
	if n := len(w.Flight()); n != 16384-room || w.Lost() != 0 {
		t.Fatalf("P24.3: %d under way, %d lost", n, w.Lost())
	}
	return w
}

// becomes: the flight is this one, and so many are lost.
func becomes(t *testing.T, what string, w *World, want []Way, lost int) {
	t.Helper()
	got := w.Flight()
	if !sameFlight(got, want) || w.Lost() != lost {
		at := 0
		for at < min(len(got), len(want)) && sameWay(got[at], want[at]) {
			at++
		}
		t.Fatalf("P24.3: %s: %d under way, %d lost; want %d, %d; unlike from %d on", what, len(got), w.Lost(), len(want), lost, at)
	}
}

// P24.3: where there is no room, what comes is lost, and no other.
func TestFullFlight(t *testing.T) {
	w := full(t, 0)
	was := w.Flight()
	does(t, w, api.Move{Kind: api.MvInject, Node: 1, Data: []byte{1}}, api.OK)
	becomes(t, "inject", w, was, 1)
	for i, k := range []int{0, 1, 5, 16383} {
		does(t, w, api.Move{Kind: api.MvTwin, K: k}, api.OK)
		becomes(t, "twin", w, was, 2+i)
	}
	sends(t, w, four(1, 1), 7, 2000, api.Flags{}) // two packets
	becomes(t, "send", w, was, 7)
	stays(t, w, api.Move{Kind: api.MvInject, Node: 1, Data: make([]byte, 65576)}, api.ErrLong)
	stays(t, w, api.Move{Kind: api.MvRecut, K: 2, J: 68}, api.ErrArg)
	does(t, w, api.Move{Kind: api.MvSwap, K: 0, J: 16383}, api.OK)
	does(t, w, api.Move{Kind: api.MvSwap, K: 0, J: 16383}, api.OK)
	does(t, w, api.Move{Kind: api.MvRecut, K: 0, J: 128}, api.OK)
	becomes(t, "recut of what fits", w, was, 7)
	does(t, w, api.Move{Kind: api.MvRecut, K: 0, J: 68}, api.OK) // 48, 48 and 12 bytes of data
	pieces, _ := recut.Recut(taken(t, was[0].Bytes), 68)
	was[0].Bytes, _ = ip4.Build(pieces[0])
	becomes(t, "recut", w, was, 9)
	forwards(t, w, 1) // the router cuts it in three: there is room for one
	if l := w.Flight(); len(l) != 16384 || w.Lost() != 11 || !sameFlight(l[:16383], slices.Concat(was[:1], was[2:])) {
		t.Fatalf("P24.3: forward: %d under way, %d lost", len(l), w.Lost())
	}
	if p := packetAt(t, w, 16383); p.Off != 0 || len(p.Data) != 552 {
		t.Errorf("P24.3: the earlier one goes in: %+v", p)
	}
	was = w.Flight()
	does(t, w, api.Move{Kind: api.MvDrop, K: 7}, api.OK)
	becomes(t, "drop", w, slices.Concat(was[:7], was[8:]), 11)
}

// P24.3: with room for some of what comes the earlier ones go in.
func TestNearlyFullFlight(t *testing.T) {
	w := full(t, 1)
	was := w.Flight()
	sends(t, w, four(1, 1), 7, 2000, api.Flags{})
	l := w.Flight()
	if p := taken(t, l[len(l)-1].Bytes); len(l) != 16384 || w.Lost() != 1 || p.Off != 0 || !p.More || !sameFlight(l[:len(was)], was) {
		t.Fatalf("P24.3: send: %d under way, %d lost, %+v", len(l), w.Lost(), p)
	}
	for room := range 4 {
		w = full(t, room)
		was = w.Flight()
		p := taken(t, was[1].Bytes)
		does(t, w, api.Move{Kind: api.MvRecut, K: 1, J: 500}, api.OK)
		pieces, _ := recut.Recut(p, 500)
		if len(pieces) != 3 {
			t.Fatal("not three pieces")
		}
		want := was[:1:1]
		for _, q := range pieces[:min(3, room+1)] {
			b, _ := ip4.Build(q)
			want = append(want, Way{Node: 2, Bytes: b})
		}
		becomes(t, "recut", w, append(want, was[2:]...), max(0, 2-room))
	}
	w = full(t, 1)
	was = w.Flight()
	does(t, w, api.Move{Kind: api.MvTwin, K: 16382}, api.OK)
	becomes(t, "twin of the last", w, append(was, was[16382]), 0)
	w = full(t, 1)
	does(t, w, api.Move{Kind: api.MvTwin, K: 3}, api.OK)
	becomes(t, "twin", w, slices.Concat(was[:4], was[3:16383]), 0)
}

// P24.3: messages at a tick that find no room are lost, those of the later hosts.
func TestFullTick(t *testing.T) {
	c := config()
	c.Hosts[0].Quota.Timeout, c.Hosts[1].Quota.Timeout = 1, 1
	w := made(t, c)
	for i, a := range []api.Addr{four(0, 1), four(1, 1)} {
		p := api.Packet{V: 4, Src: four(7, 7), Dst: a, Proto: 17, TTL: 9, More: true, Data: pattern(16)}
		b, _ := ip4.Build(p)
		does(t, w, api.Move{Kind: api.MvInject, Node: 1 - i, Data: b}, api.OK)
		forwards(t, w, 0) // not theirs
		does(t, w, api.Move{Kind: api.MvInject, Node: i, Data: b}, api.OK)
		forwards(t, w, 0)
	}
	for range api.MaxFlight - 1 {
		does(t, w, api.Move{Kind: api.MvInject, Node: 1, Data: []byte{1}}, api.OK)
	}
	does(t, w, api.Move{Kind: api.MvTick}, api.OK)
	if l := w.Flight(); len(l) != 16384 || w.Lost() != 1 || taken(t, l[16383].Bytes).Src != four(0, 1) {
		t.Errorf("P24.3: tick: %d under way, %d lost", len(l), w.Lost())
	}
}

// The flight is told in order, and what is told is the bytes as they are.
func TestFlightIsTold(t *testing.T) {
	w := laden(t)
	l := w.Flight()
	if !bytes.Equal(l[2].Bytes, []byte{9, 8, 7}) || len(l[3].Bytes) != 0 || taken(t, l[0].Bytes).DF || !taken(t, l[1].Bytes).DF {
		t.Errorf("P24.4: Flight() = %v", l)
	}
	if !sameFlight(w.Flight(), l) || w.Lost() != 0 || w.Now() != 0 {
		t.Error("P24.4: asking has changed what is told")
	}
}
