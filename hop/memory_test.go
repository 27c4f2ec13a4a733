package hop

import (
	"bytes"
	"slices"
	"testing"

	"mosaic/api"
)

// What is handed in is neither changed nor kept, nor the room behind it; what is answered is new memory.
func TestMemory(t *testing.T) {
	g := source(2305)
	for range 400 {
		x := newSubject(t, g.config())
		x.rough = true
		for range 40 {
			x.packet(g.bytesIn(x.m.c))
		}
	}
}

// What New is handed is written over behind it: the router goes on by what it was, and its lists are as they were.
func TestConfigIsNotKept(t *testing.T) {
	g := source(2306)
	for range 300 {
		c := g.config()
		handed := api.HopConfig{
			Addrs:  append(make([]api.Addr, 0, 40), c.Addrs...),
			Links:  append(make([]int, 0, 40), c.Links...),
			Routes: append(make([]api.Route, 0, 40), c.Routes...),
		}
		h := made(t, handed)
		if !slices.Equal(handed.Addrs, c.Addrs) || !slices.Equal(handed.Links, c.Links) || !slices.Equal(handed.Routes, c.Routes) {
			t.Fatal("P23.1: New changed what it was handed")
		}
		for i := range 40 {
			if i >= len(c.Addrs) && handed.Addrs[:40][i] != (api.Addr{}) || i >= len(c.Links) && handed.Links[:40][i] != 0 || i >= len(c.Routes) && handed.Routes[:40][i] != (api.Route{}) {
				t.Fatal("P23.1: New wrote behind what it was handed")
			}
			handed.Addrs[:40][i], handed.Links[:40][i], handed.Routes[:40][i] = four(0, 1), 70, api.Route{Net: four(0, 1), Bits: 32, Link: 9}
		}
		x := newSubject(t, c)
		x.h = h
		for range 40 {
			x.packet(g.bytesIn(c))
		}
	}
}

// No two lists of an answer share memory, nor do two answers: one is written over up to its capacity, and the others stay.
func TestNothingIsShared(t *testing.T) {
	h := made(t, dualConfig())
	long := from4(3000)
	var all, was [][]byte
	for _, p := range []api.Packet{long, late4(3), late4(100), late6(1300), from4(3), from6(100), long} {
		for _, o := range h.Packet(lay(t, p)) {
			all, was = append(all, o.Bytes), append(was, bytes.Clone(o.Bytes))
		}
	}
	for i := range all {
		scribble(all[i])
		for j := range all {
			if j != i && !bytes.Equal(all[j], was[j]) {
				t.Fatalf("P23.1: the packets %d and %d share memory", i, j)
			}
		}
		scribble(all[i])
	}
}

// Routers know nothing of one another: many that take turns answer as their models do.
func TestRoutersAreApart(t *testing.T) {
	g := source(2307)
	for range 50 {
		c := g.config()
		var l []*subject
		for range 4 {
			l = append(l, newSubject(t, c), newSubject(t, g.config()))
		}
		for range 300 {
			x := pick(&g, l...)
			x.packet(g.bytesIn(x.m.c))
		}
	}
}

// The same packets into new routers give the same answers.
func TestOneOutcome(t *testing.T) {
	play := func() []api.Out {
		var l []api.Out
		g := source(2308)
		for range 20 {
			c := g.config()
			h := made(t, c)
			for range 40 {
				l = append(l, h.Packet(g.bytesIn(c))...)
			}
		}
		return l
	}
	want := play()
	for range 3 {
		if !slices.EqualFunc(play(), want, func(a, b api.Out) bool { return a.Link == b.Link && bytes.Equal(a.Bytes, b.Bytes) }) {
			t.Fatal("P23.1: two runs differ")
		}
	}
}

// Bytes of all kinds, many of them no packet: each beginning of a packet, and each with one byte changed.
func TestBytesOfAllKinds(t *testing.T) {
	x := newSubject(t, dualConfig())
	first, atomic := from6(24), late6(24)
	first.Frag, first.More, atomic.Frag = true, true, true
	options := late4(20)
	options.Opts = []byte{7, 4, 1, 2, 0x94, 4, 0, 0}
	for _, p := range []api.Packet{from4(20), late4(20), options, from6(20), late6(20), first, atomic} {
		b := lay(t, p)
		for n := range len(b) + 1 {
			x.packet(b[:n])
		}
		for i := range b {
			for v := range 256 {
				c := bytes.Clone(b)
				c[i] = byte(v)
				x.packet(c)
				if p.V == 4 && i < len(b)-20 && i != 0 {
					x.packet(summed(c)) // with the head's sum set right
				}
			}
		}
	}
}
