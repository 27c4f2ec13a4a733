package hop

import (
	"bytes"
	"slices"
	"testing"

	"mosaic/api"
	"mosaic/icmp"
)

// late4 and late6 ask for TimeUp.
func late4(n int) api.Packet {
	p := from4(n)
	p.TTL = 1
	return p
}

func late6(n int) api.Packet {
	p := from6(n)
	p.TTL = 1
	return p
}

// asking are packets of which each asks for a message of another name.
func asking(t *testing.T) []struct {
	p     api.Packet
	about func([]byte) (api.Message, api.Errno)
} {
	t.Helper()
	long4, lost4, lost6 := from4(1000), from4(40), from6(40)
	long4.DF, lost4.Dst, lost6.Dst = true, four(7, 7), six(7, 7)
	return []struct {
		p     api.Packet
		about func([]byte) (api.Message, api.Errno)
	}{
		{late4(40), icmp.TimeUp}, {lost4, icmp.NoRoute}, {long4, big(576)},
		{late6(40), icmp.TimeUp}, {lost6, icmp.NoRoute}, {from6(1361), big(1400)},
	}
}

func least(v int) api.Addr {
	if v == 6 {
		return six(0, 9)
	}
	return four(0, 9)
}

// Each message, with its own number of version 4.
func TestMessages(t *testing.T) {
	h := made(t, dualConfig())
	for i, x := range asking(t) {
		id := uint32(i)
		if x.p.V == 6 {
			id = 0
		}
		goes(t, h, x.p, 0, told(t, x.p, least(x.p.V), id, x.about))
	}
}

// No message goes to a source that is not plain or the router's own, or to which no link leads, whatever the packet asks for.
func TestWhoIsTold(t *testing.T) {
	h := made(t, dualConfig())
	for _, src := range append(notPlain(), four(0, 9), four(1, 9), six(0, 9), six(1, 9), four(7, 7), six(7, 7), six(1, 1)) {
		for _, x := range asking(t) {
			if x.p.V == src.V {
				x.p.Src = src
				goes(t, h, x.p, 0)
			}
		}
	}
	toAll := api.HopConfig{Addrs: dualConfig().Addrs, Links: []int{1500}, Routes: []api.Route{{Net: api.Addr{V: 4}}, {Net: api.Addr{V: 6}}}}
	all := made(t, toAll)
	for _, src := range append(notPlain(), toAll.Addrs...) {
		p := late4(3)
		if src.V == 6 {
			p = late6(3)
		}
		p.Src = src
		goes(t, all, p, 0) // though a link leads there
	}
	p := late4(3)
	p.Src = four(1, 5)
	goes(t, h, p, 1, told(t, p, four(0, 9), 0, icmp.TimeUp)) // over the link to the source
	q := late6(3)
	q.Src = six(2, 5)
	goes(t, h, q, 2, told(t, q, six(0, 9), 0, icmp.TimeUp))
	p.Src = p.Dst
	goes(t, h, p, 1, told(t, p, four(0, 9), 1, icmp.TimeUp))
}

// Of fragments the first alone is told about.
func TestFragmentsAreTold(t *testing.T) {
	h := made(t, dualConfig())
	id := uint32(0)
	for _, x := range asking(t) {
		x.p.Data = pattern(len(x.p.Data) &^ 7)
		if x.p.V == 6 {
			x.p.Frag, x.p.ID = true, 9
			if len(x.p.Data) > 1000 {
				x.p.Data = pattern(1360)
			}
		}
		for _, more := range []bool{false, true} {
			x.p.More, x.p.Off = more, 0
			number := uint32(0)
			if x.p.V == 4 {
				number, id = id, id+1
			}
			goes(t, h, x.p, 0, told(t, x.p, least(x.p.V), number, x.about))
			for _, off := range []int{8, 16, 1 << 12, 60000} {
				x.p.Off = off
				goes(t, h, x.p, 0)
			}
		}
	}
}

// Every protocol with every first byte: only of its version's ICMP it counts.
func TestErrorsAreNotTold(t *testing.T) {
	h := made(t, dualConfig())
	for proto := range 256 {
		for first := range 256 {
			p, q := late4(1), late6(1)
			p.Proto, q.Proto = proto, proto
			p.Data[0], q.Data[0] = byte(first), byte(first)
			silent4 := proto == 1 && slices.Contains([]int{3, 4, 5, 11, 12}, first)
			silent6 := proto == 58 && first < 128
			if l := h.Packet(lay(t, p)); len(l) == 0 != silent4 {
				t.Fatalf("P23.4: proto %d, first byte %d: %d packets go out", proto, first, len(l))
			}
			if proto == 44 {
				continue
			}
			if l := h.Packet(lay(t, q)); len(l) == 0 != silent6 {
				t.Fatalf("P23.4: version 6, proto %d, first byte %d: %d packets go out", proto, first, len(l))
			}
			q.Frag = true // atomic: what stands behind the fragment header counts
			if l := h.Packet(lay(t, q)); len(l) == 0 != silent6 {
				t.Fatalf("P23.4: an atomic fragment, proto %d, first byte %d: %d packets go out", proto, first, len(l))
			}
		}
		p, q := late4(0), late6(0)
		p.Proto, q.Proto = proto, proto
		if l := h.Packet(lay(t, p)); len(l) == 0 != (proto == 1) {
			t.Fatalf("P23.4: proto %d without data: %d packets go out", proto, len(l))
		}
		if proto == 44 {
			continue
		}
		if l := h.Packet(lay(t, q)); len(l) == 0 != (proto == 58) {
			t.Fatalf("P23.4: version 6, proto %d without data: %d packets go out", proto, len(l))
		}
	}
}

// An ICMP error that is too long, or has no way, asks in vain as well.
func TestErrorsAreNotToldWhateverTheyMeet(t *testing.T) {
	h := made(t, dualConfig())
	for _, x := range asking(t) {
		x.p.Proto, x.p.Data[0] = map[int]int{4: 1, 6: 58}[x.p.V], 3
		goes(t, h, x.p, 0)
		x.p.Data[0] = 128
		if l := h.Packet(lay(t, x.p)); len(l) != 1 {
			t.Errorf("P23.1: %+v: %d packets go out", x.p, len(l))
		}
	}
}

// The source is the least own address of the version, in whatever order they were handed in; without one nothing is told.
func TestSourceOfMessages(t *testing.T) {
	addrs := []api.Addr{four(3, 1), six(3, 1), four(2, 200), six(2, 200), four(2, 201), six(4, 0), {V: 4, B: [16]byte{9, 255, 255, 255}}, {V: 6, B: [16]byte{0xfc, 15: 255}}}
	for turn := range addrs {
		c := dualConfig()
		c.Addrs = append(slices.Clone(addrs[turn:]), addrs[:turn]...)
		h := made(t, c)
		goes(t, h, late4(3), 0, told(t, late4(3), addrs[6], 0, icmp.TimeUp))
		goes(t, h, late6(3), 0, told(t, late6(3), addrs[7], 0, icmp.TimeUp))
	}
	c := dualConfig()
	c.Addrs = []api.Addr{six(3, 1), six(0, 9)}
	h := made(t, c)
	goes(t, h, late4(3), 0)
	goes(t, h, from4(3), 1, on(from4(3)))
	goes(t, h, late6(3), 0, told(t, late6(3), six(0, 9), 0, icmp.TimeUp))
	c.Addrs = []api.Addr{four(3, 1)}
	h = made(t, c)
	goes(t, h, late6(3), 0)
	goes(t, h, late4(3), 0, told(t, late4(3), four(3, 1), 0, icmp.TimeUp))
	c.Addrs = nil
	h = made(t, c)
	goes(t, h, late4(3), 0)
	goes(t, h, late6(3), 0)
}

// A message is cut for the link over which it goes; its pieces have one number.
func TestMessagesAreCut(t *testing.T) {
	for mtu := 68; mtu <= 100; mtu++ {
		c := config()
		c.Links[0] = mtu
		h := made(t, c)
		p := late4(20)
		for id, options := range [][]byte{nil, bytes.Repeat([]byte{1}, 12), bytes.Repeat([]byte{1}, 16), bytes.Repeat([]byte{1}, 40)} {
			p.Opts = options
			q := told(t, p, four(0, 9), uint32(id), icmp.TimeUp)
			if 20+len(q.Data) <= mtu {
				goes(t, h, p, 0, q)
				continue
			}
			x, y := q, q
			n := (mtu - 20) / 8 * 8
			x.More, x.Data = true, q.Data[:n]
			y.Off, y.Data = n, q.Data[n:]
			goes(t, h, p, 0, x, y)
		}
	}
	c := dualConfig()
	c.Links[0] = 1280
	h := made(t, c)
	for _, n := range []int{1191, 1192, 1193, 1300} { // 1232 bytes of a packet are quoted
		goes(t, h, late6(n), 0, told(t, late6(n), six(0, 9), 0, icmp.TimeUp))
	}
	if l := h.Packet(lay(t, late6(1300))); len(l[0].Bytes) != 1280 {
		t.Errorf("P23.3: a message of %d bytes", len(l[0].Bytes))
	}
}

// A number is taken just where a message of version 4 goes out.
func TestCounter(t *testing.T) {
	h := made(t, dualConfig())
	silent := []api.Packet{late4(8), late4(8), late4(8), late4(8)}
	silent[0].Src = four(7, 7)
	silent[1].Off = 8
	silent[2].Proto, silent[2].Data = 1, []byte{3}
	silent[3].Dst = four(0, 9)
	for i := range 65540 {
		if i%1000 == 0 {
			for _, p := range silent {
				goes(t, h, p, 0)
			}
			goes(t, h, from4(3), 1, on(from4(3)))
			goes(t, h, late6(3), 0, told(t, late6(3), six(0, 9), 0, icmp.TimeUp))
			h.Packet([]byte{1, 2, 3})
		}
		x := asking(t)[i%3]
		goes(t, h, x.p, 0, told(t, x.p, four(0, 9), uint32(i%65536), x.about))
		if t.Failed() {
			t.Fatalf("P23.1: message %d", i)
		}
	}
	other := made(t, dualConfig())
	goes(t, other, late4(3), 0, told(t, late4(3), four(0, 9), 0, icmp.TimeUp))
}
