package sent

import (
	"bytes"
	"testing"

	"mosaic/api"
	"mosaic/cut"
	"mosaic/icmp"
	"mosaic/ip4"
	"mosaic/ip6"
)

// laid are a packet's bytes.
func laid(t *testing.T, p api.Packet) []byte {
	t.Helper()
	b, e := ip4.Build(p)
	if p.V == 6 {
		b, e = ip6.Build(p)
	}
	if e != api.OK {
		t.Fatalf("%d: %+v", e, p)
	}
	return b
}

// errorsAbout are the five errors about a packet.
func errorsAbout(t *testing.T, b []byte) []api.Message {
	t.Helper()
	tooBig := func(b []byte) (api.Message, api.Errno) { return icmp.TooBig(b, 1280) }
	var l []api.Message
	for _, f := range []func([]byte) (api.Message, api.Errno){tooBig, icmp.NoPort, icmp.NoRoute, icmp.TimeUp, icmp.LateParts} {
		m, e := f(b)
		if e != api.OK {
			t.Fatal(e)
		}
		l = append(l, m)
	}
	return l
}

// quotes are what a host sees of a packet that met an error on its way, with that TTL.
func quotes(t *testing.T, p api.Packet, ttl int) []api.Packet {
	t.Helper()
	p.TTL = ttl
	var l []api.Packet
	for _, m := range errorsAbout(t, laid(t, p)) {
		q, _, e := icmp.Look(m)
		if e != api.OK {
			t.Fatal(e)
		}
		l = append(l, q)
	}
	return l
}

// sendOf is how a host notes a packet that it cuts for an MTU, and the first that goes out; false: it may not be cut.
func sendOf(t *testing.T, p api.Packet, mtu int, id uint32) (note, api.Packet, bool) {
	t.Helper()
	l, e := cut.Cut(p, mtu, id)
	if e == api.ErrBig {
		return note{}, api.Packet{}, false
	}
	if e != api.OK {
		t.Fatal(e)
	}
	d := note{p: p, cut: l[0].Frag}
	if d.cut {
		d.id = id
	}
	return d, l[0], true
}

// holds asks whether all quotes tell that length; 0: none.
func holds(t *testing.T, w *Window, l []api.Packet, want int, when string) {
	t.Helper()
	for i, q := range l {
		if n, is := w.Match(q); n != want || is != (want > 0) {
			t.Fatalf("P17.2: %s: error %d, quote %+v: %d, %v; want %d", when, i, q, n, is, want)
		}
	}
}

// TTLs that a packet may have as it meets an error.
func ttls() []int { return []int{0, 1, 63, 64, 255} }

// itsOwn notes a send, and others behind it till it has to be forgotten.
func itsOwn(t *testing.T, n int, d note, first api.Packet, g *source) {
	t.Helper()
	w, m := made(t, n)
	for range g.below(n + 2) {
		both(t, w, m, other(d, g))
	}
	both(t, w, m, d)
	var seen []api.Packet
	for _, ttl := range ttls() {
		seen = append(seen, quotes(t, first, ttl)...)
	}
	for range n {
		holds(t, w, seen, d.length(), "remembered")
		both(t, w, m, other(d, g))
	}
	holds(t, w, seen, 0, "forgotten")
}

// other is one that does not look the same, though it may in all but one place.
func other(d note, g *source) note {
	o := note{p: with(d.p, func(*api.Packet) {}), cut: d.cut, id: d.id}
	switch k := g.below(6); {
	case k == 0:
		o.p.Src.B[3] ^= 1
	case k == 1:
		o.p.Dst.B[2] ^= 1
	case k == 2:
		o.p.Proto ^= 1
	case k == 3 && len(o.p.Data) > 0:
		o.p.Data[g.below(min(8, len(o.p.Data)))] ^= 4
	case o.p.V == 4:
		o.p.ID ^= 1
	case k == 4 && o.cut:
		o.id ^= 1
	default:
		o.cut = !o.cut
	}
	return o
}

func bytesOf(g *source, n int) []byte {
	b := make([]byte, n)
	for i := range b {
		b[i] = byte(g.next() >> 20)
	}
	return b
}

func TestItsOwn(t *testing.T) {
	g := source(172)
	lists := [][]byte{nil, {148, 4, 0, 0}, {7, 3, 1, 130, 3, 2, 1, 0}, bytes.Repeat([]byte{1}, 40)}
	parted, whole := 0, 0
	for i := range 700 {
		p, floor := four(uint32(g.below(65536)), ""), 68
		if i%2 == 0 {
			p, floor = six(""), 1280
			p.Flow = g.below(1 << 20)
		} else {
			p.Opts, p.DF = lists[g.below(len(lists))], g.once(5)
		}
		p.TOS, p.Data = g.below(256), bytesOf(&g, g.below([]int{12, 100, 3000}[g.below(3)]))
		d, first, may := sendOf(t, p, floor+g.below([]int{1, 20, 2000}[g.below(3)]), uint32(g.next()))
		if !may {
			continue
		}
		if first.More {
			parted++
		} else {
			whole++
		}
		itsOwn(t, g.below(5), d, first, &g)
	}
	if parted < 100 || whole < 100 {
		t.Errorf("%d were cut, %d not", parted, whole)
	}
}

// The edges: the least MTU beside the longest head, the longest packets, the greatest window.
func TestItsOwnEdges(t *testing.T) {
	g := source(1720)
	full := with(four(65535, ""), func(p *api.Packet) { p.Opts = bytes.Repeat([]byte{1}, 40) })
	for _, c := range []struct {
		p   api.Packet
		n   int
		mtu int
		n0  int
	}{
		{full, 9, 68, 64}, {full, 8, 68, 64}, {full, 65475, 68, 1}, {full, 0, 68, 1},
		{four(0, ""), 65515, 65535, 2}, {four(0, ""), 65515, 65534, 2}, {four(0, ""), 49, 68, 3}, {four(0, ""), 48, 68, 3},
		{six(""), 65535, 65535, 2}, {six(""), 65535, 1280, 2}, {six(""), 1240, 1280, 64}, {six(""), 1241, 1280, 64}, {six(""), 0, 1280, 1},
	} {
		p := c.p
		p.Data = bytesOf(&g, c.n)
		d, first, may := sendOf(t, p, c.mtu, 0)
		if !may {
			t.Fatal("it may not be cut")
		}
		itsOwn(t, c.n0, d, first, &g)
	}
}

// A packet that was cut is not quoted by its later fragments.
func TestLaterFragments(t *testing.T) {
	g := source(1721)
	for _, p := range []api.Packet{four(7, ""), six("")} {
		// Each piece begins with the same bytes: Off alone tells them apart.
		p.Data = bytes.Repeat([]byte("abcdefgh"), 400)
		l, e := cut.Cut(p, 1280, 9)
		if e != api.OK || len(l) < 3 {
			t.Fatalf("%d, %d pieces", e, len(l))
		}
		d, first, _ := sendOf(t, p, 1280, 9)
		w, m := made(t, 4)
		both(t, w, m, other(d, &g))
		both(t, w, m, d)
		holds(t, w, quotes(t, first, 3), d.length(), "the first")
		for _, q := range l[1:] {
			holds(t, w, quotes(t, q, 3), 0, "a later one")
		}
	}
}

// One that is sent again, cut otherwise, is told by each quote for itself.
func TestSentAgainCutOtherwise(t *testing.T) {
	p := six(string(bytes.Repeat([]byte("abcdefgh"), 200)))
	w, m := made(t, 3)
	uncut, whole, _ := sendOf(t, p, 1640, 5)
	parted, first, _ := sendOf(t, p, 1500, 5)
	again, firstAgain, _ := sendOf(t, p, 1280, 6)
	if uncut.cut || !parted.cut || !again.cut {
		t.Fatal("it is cut otherwise than this test needs")
	}
	both(t, w, m, uncut)
	holds(t, w, quotes(t, first, 1), 0, "not sent yet")
	both(t, w, m, parted)
	holds(t, w, quotes(t, firstAgain, 1), 0, "not sent yet")
	both(t, w, m, again)
	for _, q := range []api.Packet{whole, first, firstAgain} {
		holds(t, w, quotes(t, q, 1), 1640, "sent")
	}
	both(t, w, m, note{p: six("")})
	holds(t, w, quotes(t, whole, 1), 40, "a later one looks the same")
	holds(t, w, quotes(t, first, 1), 1640, "sent")
	holds(t, w, quotes(t, firstAgain, 1), 1640, "sent")
}
