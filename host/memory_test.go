package host

import (
	"bytes"
	"math"
	"slices"
	"testing"

	"mosaic/api"
)

// What New is handed is written over behind it: the host goes on by what it was, and its lists are as they were.
func TestConfigIsNotKept(t *testing.T) {
	g := source(228)
	c := newTally()
	for range 200 {
		w := newWorld(t, &g, c)
		for i := range w.hosts {
			k := w.hosts[i].m.c
			handed := k
			handed.Addrs = append(make([]api.Addr, 0, 20), k.Addrs...)
			handed.Links = append(make([]int, 0, 20), k.Links...)
			handed.Routes = append(make([]api.Route, 0, 20), k.Routes...)
			w.hosts[i].h = made(t, handed)
			if !slices.Equal(handed.Addrs, k.Addrs) || !slices.Equal(handed.Links, k.Links) || !slices.Equal(handed.Routes, k.Routes) {
				t.Fatal("P22.7: New changed what it was handed")
			}
			for j := range 20 {
				if handed.Addrs[:20][j] != (api.Addr{}) && j >= len(k.Addrs) || handed.Links[:20][j] != 0 && j >= len(k.Links) || handed.Routes[:20][j] != (api.Route{}) && j >= len(k.Routes) {
					t.Fatal("P22.7: New wrote behind what it was handed")
				}
				handed.Addrs[:20][j], handed.Links[:20][j], handed.Routes[:20][j] = far4, 70, api.Route{Net: far4, Bits: 32, Link: 9}
			}
			w.hosts[i].m = newModel(k)
		}
		w.run(&g, 150)
	}
}

// What was answered stays as it is, whatever comes behind it.
func TestWhatIsAnsweredStays(t *testing.T) {
	a, b := made(t, dualConfig(1)), made(t, dualConfig(2))
	binds(t, a, four(1), 1000, 1, 1000)
	binds(t, b, any4, 7, 1, 7)
	var outs, was [][]byte
	var gots []api.Got
	keep := func(l [][]byte) {
		for _, x := range l {
			outs, was = append(outs, x), append(was, bytes.Clone(x))
		}
	}
	for i := range 100 {
		l := sends(t, a, 1, four(2), 7, bytes.Repeat([]byte{byte(i)}, 40*i), api.Flags{})
		keep(l)
		quiet(t, b, l...)
		g, e := b.Recv(1)
		if e != api.OK {
			t.Fatal(e)
		}
		gots = append(gots, g)
		keep(overLink(t, b.Packet(sends(t, a, 1, four(2), 8, []byte{byte(i)}, api.Flags{})[0]), 0))
		quiet(t, b, sends(t, a, 1, four(2), 7, make([]byte, 2000), api.Flags{})[0])
		keep(overLink(t, ticks(t, b, int64(60*i)), 0))
	}
	for i := range outs {
		if !bytes.Equal(outs[i], was[i]) {
			t.Fatalf("P22.7: packet %d has changed", i)
		}
	}
	for i, g := range gots {
		if !bytes.Equal(g.Data, bytes.Repeat([]byte{byte(i)}, 40*i)) {
			t.Fatalf("P22.7: datagram %d has changed", i)
		}
	}
}

// Hosts know nothing of one another: many that take turns answer as their models do.
func TestHostsAreApart(t *testing.T) {
	g := source(229)
	c := newTally()
	for range 60 {
		var worlds []*world
		for range 4 {
			worlds = append(worlds, newWorld(t, &g, c))
		}
		for range 600 {
			pick(&g, worlds...).move(&g)
		}
		for _, w := range worlds {
			w.hosts[0].tells()
			w.hosts[1].tells()
		}
	}
}

// The same calls on new hosts give the same answers.
func TestOneOutcome(t *testing.T) {
	play := func() (out []State, flights [][]byte) {
		g := source(230)
		for range 20 {
			w := newWorld(t, &g, newTally())
			w.run(&g, 200)
			out = append(out, w.hosts[0].h.State(), w.hosts[1].h.State())
			flights = append(flights, w.flight...)
		}
		return out, flights
	}
	want, flights := play()
	for range 4 {
		got, l := play()
		if !slices.EqualFunc(got, want, sameState) || !slices.EqualFunc(l, flights, bytes.Equal) {
			t.Fatal("P22.7: two runs of one script differ")
		}
	}
}

// No call panics, whatever it is given.
func TestWildArguments(t *testing.T) {
	ints := []int{math.MinInt, -1, 0, 1, 2, 65535, 65536, math.MaxInt}
	addrs := append(notPlain(), four(1), four(2), six(1), six(2), far4, far6, api.Addr{V: math.MinInt}, api.Addr{V: math.MaxInt})
	c := dualConfig(1)
	c.Sockets = 32
	x := newSubject(t, c)
	x.bind(any4, 7)
	x.bind(six(1), 7)
	for _, a := range addrs {
		x.estimate(a)
		for _, n := range ints {
			x.bind(a, n)
			x.close(max(n, 2) + 1)
			x.recv(n)
			for _, port := range ints {
				for _, f := range []api.Flags{{}, {DF: true}, {NoSum: true}, {Opts: alert}, {Opts: noOpt}} {
					x.send(n, a, port, nil, f)
					x.send(n, a, port, make([]byte, 65600), f)
				}
			}
		}
	}
	for _, now := range []int64{math.MinInt64, -1, 0, 1, 1 << 40, 1<<40 + 1, math.MaxInt64, 5} {
		x.tick(now)
	}
	x.tells()
}

// Bytes of all kinds, most of them no packet: each beginning of a packet, and each with one byte changed.
func TestBytesOfAllKinds(t *testing.T) {
	a := made(t, dualConfig(2))
	binds(t, a, four(2), 1000, 1, 1000)
	binds(t, a, six(2), 1000, 2, 1000)
	x := newSubject(t, dualConfig(1))
	x.bind(any4, 7)
	var l [][]byte
	l = append(l, sends(t, a, 1, four(1), 7, pattern(10), api.Flags{Opts: alert})...)
	l = append(l, sends(t, a, 2, six(1), 7, pattern(10), api.Flags{})...)
	l = append(l, pieces(t, datagramPacket(t, six(2), six(1), 5, 7, pattern(1300)), 1280, 9)[1])
	l = append(l, pieces(t, datagramPacket(t, four(2), four(1), 5, 7, pattern(60)), 68, 9)...)
	for _, b := range l {
		for n := range len(b) + 1 {
			x.packet(b[:n])
		}
		for i := range b {
			for _, mask := range []byte{1, 2, 4, 8, 16, 32, 64, 128, 255} {
				c := bytes.Clone(b)
				c[i] ^= mask
				x.packet(c)
			}
		}
	}
	x.tells()
	x.tick(60)
	x.tells()
}

// What is kept hangs on what is bound, sent lately and in the making, not on how much ever was.
func TestLittleIsKept(t *testing.T) {
	a, b := made(t, plainConfig(1)), made(t, plainConfig(2))
	binds(t, a, four(1), 1000, 1, 1000)
	for i := range 3000 {
		n, _, e := b.Bind(any4, 7)
		if e != api.OK {
			t.Fatal(e)
		}
		quiet(t, b, sends(t, a, 1, four(2), 7, pattern(20), api.Flags{})...)
		quiet(t, b, sends(t, a, 1, four(2), 7, pattern(3000), api.Flags{})[0])
		if e := b.Close(n); e != api.OK {
			t.Fatal(e)
		}
		ticks(t, b, int64(100*i))
	}
	if len(b.lines) != 0 {
		t.Errorf("P22.7: %d lines are kept", len(b.lines))
	}
	if s := b.State(); len(s.Keys) != 0 || len(s.Sockets) != 0 {
		t.Errorf("P22.1: State = %+v", s)
	}
}
