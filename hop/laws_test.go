package hop

import (
	"slices"
	"testing"

	"mosaic/api"
	"mosaic/icmp"
	"mosaic/recut"
)

// packetsOut takes apart what goes out, and holds it against P23.3.
func packetsOut(t *testing.T, c api.HopConfig, l []api.Out) []api.Packet {
	t.Helper()
	var out []api.Packet
	for _, o := range l {
		if o.Link < 0 || o.Link >= len(c.Links) || len(o.Bytes) > c.Links[o.Link] || o.Link != l[0].Link {
			t.Fatalf("P23.3: %d bytes go over %d; %v", len(o.Bytes), o.Link, c.Links)
		}
		out = append(out, taken(t, o.Bytes))
	}
	return out
}

// P23.2: a right packet that meets nothing goes out over its link, and nothing else does.
func TestSentOn(t *testing.T) {
	g := source(2302)
	cutWhole, cutPart, uncut := 0, 0, 0
	for range 1000 {
		c := g.config()
		h, m := made(t, c), &model{c: c}
		for range 40 {
			p := g.packet(c)
			b := lay(t, p)
			if m.becomes(b) != sentOn {
				h.Packet(b)
				continue
			}
			l := h.Packet(b)
			pieces := packetsOut(t, c, l)
			link := m.link(p.Dst)
			if len(l) == 0 || l[0].Link != link || !recut.Is(on(p), c.Links[link], pieces) {
				t.Fatalf("P23.2: %+v goes on as %+v", p, l)
			}
			switch {
			case len(l) == 1:
				uncut++
			case p.Off == 0 && !p.More:
				cutWhole++
			default:
				cutPart++
			}
			sameDatagram(t, p, pieces)
			if p.V == 4 && p.Off == 0 && !p.More {
				slices.Reverse(pieces)
				if q, e := recut.Join(pieces); e != api.OK || !samePacket(q, on(p)) {
					t.Fatalf("P23.2: %+v comes as %+v, %d", p, q, e)
				}
			}
		}
	}
	if cutWhole < 300 || cutPart < 300 || uncut < 3000 {
		t.Errorf("too few of a kind: %d, %d, %d", cutWhole, cutPart, uncut)
	}
}

// sameDatagram: pieces have the key of what came, and its range.
func sameDatagram(t *testing.T, p api.Packet, pieces []api.Packet) {
	t.Helper()
	at := p.Off
	for i, q := range pieces {
		if q.V != p.V || q.Src != p.Src || q.Dst != p.Dst || q.Proto != p.Proto || q.ID != p.ID || q.Off != at || q.TTL != p.TTL-1 {
			t.Fatalf("P23.2: %+v: the piece %+v", p, q)
		}
		if last := i == len(pieces)-1; q.More != (p.More || !last) {
			t.Fatalf("P23.2: %+v: the piece %+v", p, q)
		}
		at += len(q.Data)
	}
	if at != p.Off+len(p.Data) {
		t.Fatalf("P23.2: %+v: the pieces end at %d", p, at)
	}
}

// P23.3: whatever comes in, what goes out are right packets that fit, all over one link.
func TestWhatFits(t *testing.T) {
	g := source(2303)
	for range 500 {
		c := g.config()
		h := made(t, c)
		for range 40 {
			packetsOut(t, c, h.Packet(g.bytesIn(c)))
		}
	}
}

// P23.4: one message at most, to the packet's source, about it as it came.
func TestOneMessage(t *testing.T) {
	g := source(2304)
	seen := map[int]int{}
	for range 1000 {
		c := g.config()
		h, m := made(t, c), &model{c: c}
		for range 40 {
			p := g.packet(c)
			b := lay(t, p)
			pieces := packetsOut(t, c, h.Packet(b))
			if len(pieces) == 0 || pieces[0].Src == p.Src { // a message never is from the packet's source
				continue
			}
			q, e := recut.Join(pieces)
			if e != api.OK {
				t.Fatalf("P23.4: %+v: %+v is not one message", p, pieces)
			}
			msg := messageOf(t, p, b, q)
			seen[10*q.V+msg.Type]++
			if !m.own(q.Src) || q.Dst != p.Src || !plain(p.Src) || p.Off != 0 {
				t.Fatalf("P23.4: %+v goes out about %+v", q, p)
			}
			if icmpOf(p.V) == p.Proto && (len(p.Data) == 0 || icmp.IsError(api.Message{V: p.V, Type: int(p.Data[0])})) {
				t.Fatalf("P23.4: a message about the error %+v", p)
			}
			if tooBig := msg.V == 6 && msg.Type == 2 || msg.V == 4 && msg.Type == 3 && msg.Code == 4; tooBig {
				if link := m.link(p.Dst); int(msg.Rest) != c.Links[link] || int(msg.Rest) >= len(b) {
					t.Fatalf("P23.4: %+v about a packet of %d bytes", msg, len(b))
				}
				seen[100*q.V]++
			}
		}
	}
	for _, k := range []int{43, 51, 61, 62, 63, 400, 600} {
		if seen[k] < 200 {
			t.Errorf("too few of a kind: %v", seen)
		}
	}
}

func icmpOf(v int) int { return map[int]int{4: 1, 6: 58}[v] }

// messageOf takes the message of q apart, which quotes p, whose bytes are b.
func messageOf(t *testing.T, p api.Packet, b []byte, q api.Packet) api.Message {
	t.Helper()
	m, e := icmp.Parse(q.Src, q.Dst, q.Data)
	if e != api.OK || q.Proto != icmpOf(q.V) || q.TTL != 64 || q.TOS != 0 || q.Flow != 0 || q.DF || len(q.Opts) != 0 || !icmp.IsError(m) {
		t.Fatalf("P23.4: %+v about %+v", q, p)
	}
	quoted, n, e := icmp.Look(m)
	want, most := p, 8
	if p.V == 6 {
		most = 1192
		if p.Frag {
			most = 1184
		}
	}
	want.Data = p.Data[:min(len(p.Data), most)]
	if e != api.OK || n != len(b) || !samePacket(quoted, want) {
		t.Fatalf("P23.4: %+v, %d, %d is quoted of %+v", quoted, n, e, p)
	}
	return m
}

// A packet goes over routers in a row, and a message about it back over them, each TTL one less.
func TestRow(t *testing.T) {
	const n = 6
	var row []*Hop
	for i := range n {
		row = append(row, made(t, api.HopConfig{
			Addrs:  []api.Addr{four(9, byte(10+i))},
			Links:  []int{1500 - 100*i, 1400 - 100*i},
			Routes: []api.Route{{Net: four(0, 0), Bits: 24, Link: 0}, {Net: four(1, 0), Bits: 24, Link: 1}},
		}))
	}
	for ttl := range n + 3 {
		p := from4(100)
		p.TTL = ttl
		at, b := 0, lay(t, p)
		for at < n {
			l := row[at].Packet(b)
			if len(l) != 1 {
				t.Fatalf("P23.2: TTL %d: %d packets at router %d", ttl, len(l), at)
			}
			b = l[0].Bytes
			if l[0].Link == 0 {
				break
			}
			at++
		}
		if want := min(max(ttl-1, 0), n); at != want {
			t.Fatalf("P23.2: TTL %d: it comes to router %d; want %d", ttl, at, want)
		}
		if at == n {
			if q := taken(t, b); q.TTL != ttl-n || !slices.Equal(q.Data, p.Data) {
				t.Fatalf("P23.2: TTL %d: %+v", ttl, q)
			}
			continue
		}
		for back := at - 1; back >= 0; back-- {
			l := row[back].Packet(b)
			if len(l) != 1 || l[0].Link != 0 {
				t.Fatalf("P23.2: the message goes out as %+v", l)
			}
			b = l[0].Bytes
		}
		if q := taken(t, b); q.Src != four(9, byte(10+at)) || q.TTL != 64-at || q.Dst != p.Src {
			t.Fatalf("P23.2: TTL %d: the message %+v", ttl, q)
		}
	}
}

// What is cut and cut again over smaller and smaller links is one datagram at the end.
func TestCutAgain(t *testing.T) {
	p := from4(5000)
	p.Opts = []byte{7, 4, 1, 2, 0x94, 4, 0, 0}
	flight := [][]byte{lay(t, p)}
	for _, mtu := range []int{5000, 1500, 576, 300, 100, 68} {
		c := config()
		c.Links[1] = mtu
		h := made(t, c)
		var next [][]byte
		for _, b := range flight {
			for _, o := range h.Packet(b) {
				next = append(next, o.Bytes)
			}
		}
		flight = next
	}
	var l []api.Packet
	for _, b := range flight {
		l = append(l, taken(t, b))
	}
	want := p
	want.TTL = 64 - 6
	if q, e := recut.Join(l); e != api.OK || !samePacket(q, want) || len(l) < 100 {
		t.Errorf("P23.2: %d pieces make %+v, %d", len(l), q, e)
	}
}
