package host

import (
	"bytes"
	"math"
	"slices"
	"testing"

	"mosaic/api"
	"mosaic/cut"
	"mosaic/udp"
)

// alert is an option that later fragments have too, pad one that only the first has.
var (
	alert = []byte{148, 4, 0, 0}
	pad   = []byte{1, 1, 1, 1}
	noOpt = []byte{7}
)

// pattern is n bytes no two neighbours of which are alike.
func pattern(n int) []byte {
	b := make([]byte, n)
	for i := range b {
		b[i] = byte(i*7 + i>>8)
	}
	return b
}

// Each row has all later errors too: the first one is told.
func TestErrorsOfSendInOrder(t *testing.T) {
	c := dualConfig(1)
	c.Links = append(c.Links, 1279)
	c.Routes = append(c.Routes, api.Route{Net: six(77), Bits: 128, Link: 1})
	h := made(t, c)
	binds(t, h, four(1), 1000, 1, 1000)
	binds(t, h, six(1), 1000, 2, 1000)
	binds(t, h, any4, 1001, 3, 1001)
	long, df := make([]byte, 70000), api.Flags{DF: true, NoSum: true, Opts: noOpt}
	for _, s := range []int{0, -1, 4, 99, math.MinInt, math.MaxInt} {
		sendFails(t, h, s, far4, 7, long, df, api.ErrArg)
	}
	for _, dst := range notPlain() {
		for socket := 1; socket <= 3; socket++ {
			sendFails(t, h, socket, dst, 7, long, df, api.ErrArg)
			sendFails(t, h, socket, dst, 7, nil, api.Flags{}, api.ErrArg)
		}
	}
	sendFails(t, h, 1, six(2), 7, nil, api.Flags{}, api.ErrArg)
	sendFails(t, h, 3, six(2), 7, nil, api.Flags{}, api.ErrArg)
	sendFails(t, h, 2, four(2), 7, nil, api.Flags{}, api.ErrArg)
	sendFails(t, h, 1, four(1), 7, nil, api.Flags{}, api.ErrArg)
	sendFails(t, h, 2, six(1), 7, nil, api.Flags{}, api.ErrArg)
	for _, port := range []int{0, -1, 65536, math.MinInt, math.MaxInt} {
		sendFails(t, h, 1, far4, port, long, df, api.ErrArg)
		sendFails(t, h, 1, four(2), port, nil, api.Flags{}, api.ErrArg)
		sendFails(t, h, 2, six(2), port, nil, api.Flags{}, api.ErrArg)
	}
	sendFails(t, h, 2, six(2), 7, nil, api.Flags{NoSum: true}, api.ErrArg)
	sendFails(t, h, 2, far6, 7, long, api.Flags{Opts: pad}, api.ErrArg)
	sendFails(t, h, 2, far6, 7, long, api.Flags{Opts: noOpt}, api.ErrArg)

	for _, o := range [][]byte{noOpt, {1, 1, 1}, {7, 1, 0, 0}, {7, 9, 0, 0}, bytes.Repeat([]byte{1}, 44)} {
		sendFails(t, h, 1, far4, 7, long, api.Flags{DF: true, Opts: o}, api.ErrOpt)
		sendFails(t, h, 1, four(2), 7, nil, api.Flags{Opts: o}, api.ErrOpt)
	}

	sendFails(t, h, 1, far4, 7, make([]byte, 65508), api.Flags{DF: true}, api.ErrLong)
	sendFails(t, h, 1, far4, 7, make([]byte, 65504), api.Flags{DF: true, Opts: pad}, api.ErrLong)
	sendFails(t, h, 1, four(2), 7, make([]byte, 65468), api.Flags{Opts: bytes.Repeat(alert, 10)}, api.ErrLong)
	sendFails(t, h, 2, far6, 7, make([]byte, 65528), api.Flags{DF: true}, api.ErrLong)
	sendFails(t, h, 2, six(77), 7, make([]byte, 65528), api.Flags{DF: true}, api.ErrLong)

	sendFails(t, h, 1, far4, 7, make([]byte, 65507), api.Flags{DF: true}, api.ErrRoute)
	sendFails(t, h, 3, far4, 7, make([]byte, 65503), api.Flags{DF: true, Opts: pad}, api.ErrRoute)
	sendFails(t, h, 2, far6, 7, make([]byte, 65527), api.Flags{DF: true}, api.ErrRoute)
	sendFails(t, h, 2, six(77), 7, nil, api.Flags{}, api.ErrRoute)

	sendFails(t, h, 1, four(2), 7, make([]byte, 1473), api.Flags{DF: true}, api.ErrBig)
	sendFails(t, h, 1, four(2), 7, make([]byte, 1469), api.Flags{DF: true, Opts: alert}, api.ErrBig)
	sendFails(t, h, 1, four(2), 7, make([]byte, 65507), api.Flags{DF: true}, api.ErrBig)
	sendFails(t, h, 2, six(2), 7, make([]byte, 1453), api.Flags{DF: true}, api.ErrBig)
	sendFails(t, h, 2, six(2), 7, make([]byte, 65527), api.Flags{DF: true}, api.ErrBig)

	// No identification was taken.
	if p := taken(t, sends(t, h, 1, four(2), 7, nil, api.Flags{})[0]); p.ID != 0 {
		t.Errorf("P22.4: ID %d behind what was refused", p.ID)
	}
	if p := taken(t, sends(t, h, 2, six(2), 7, make([]byte, 1453), api.Flags{})[0]); p.ID != 0 || !p.Frag {
		t.Errorf("P22.4: %+v behind what was refused", p)
	}
	counts(t, h, [8]int{})
}

// Without a source of its version a socket that is bound to any sends nothing.
func TestSourceOfSocket(t *testing.T) {
	c := dualConfig(5)
	c.Addrs = []api.Addr{six(9), four(200), six(5), four(5), {V: 6, B: [16]byte{0xfe, 0x80, 15: 1}}, {V: 4, B: [16]byte{192, 168, 0, 1}}}
	h := made(t, c)
	binds(t, h, any4, 1, 1, 1)
	binds(t, h, any6, 1, 2, 1)
	binds(t, h, four(200), 1, 3, 1)
	binds(t, h, six(9), 1, 4, 1)
	for i, want := range []api.Addr{four(5), six(5), four(200), six(9)} {
		dst := four(2)
		if want.V == 6 {
			dst = six(2)
		}
		if p := taken(t, sends(t, h, i+1, dst, 7, nil, api.Flags{})[0]); p.Src != want {
			t.Errorf("P22.1: socket %d sends from %v; want %v", i+1, p.Src, want)
		}
	}
	c.Addrs = []api.Addr{six(1)}
	h = made(t, c)
	binds(t, h, any4, 1, 1, 1)
	sendFails(t, h, 1, four(2), 7, nil, api.Flags{}, api.ErrRoute)
	c.Addrs = []api.Addr{four(1)}
	h = made(t, c)
	binds(t, h, any6, 1, 1, 1)
	sendFails(t, h, 1, six(2), 7, nil, api.Flags{}, api.ErrRoute)
	c.Addrs = nil
	h = made(t, c)
	binds(t, h, any4, 1, 1, 1)
	sendFails(t, h, 1, four(2), 7, nil, api.Flags{}, api.ErrRoute)
}

// What one Send lays, field by field, is held against the packet that the chapter says.
func TestWhatIsSent(t *testing.T) {
	c := dualConfig(1)
	c.Links = []int{68, 9000, 1281}
	c.Routes = []api.Route{{Net: any4, Bits: 0, Link: 0}, {Net: four(3), Bits: 32, Link: 1}, {Net: any6, Bits: 0, Link: 2}, {Net: six(3), Bits: 128, Link: 1}}
	h := made(t, c)
	binds(t, h, four(1), 1000, 1, 1000)
	binds(t, h, any4, 65535, 2, 65535)
	binds(t, h, six(1), 1, 3, 1)
	ids := map[int]uint32{}
	rows := []struct {
		socket int
		dst    api.Addr
		port   int
		n      int
		f      api.Flags
		link   int
	}{
		{1, four(2), 7, 0, api.Flags{}, 0}, {1, four(2), 1, 40, api.Flags{}, 0}, {1, four(2), 65535, 41, api.Flags{}, 0}, {1, four(2), 9, 40, api.Flags{DF: true}, 0},
		{1, four(2), 9, 36, api.Flags{DF: true, Opts: pad}, 0}, {1, four(2), 9, 300, api.Flags{NoSum: true, Opts: slices.Concat(alert, pad)}, 0},
		{2, four(3), 9, 8972, api.Flags{NoSum: true}, 1}, {2, four(3), 9, 8973, api.Flags{}, 1}, {2, four(3), 9, 65507, api.Flags{}, 1}, {2, four(2), 9, 65467, api.Flags{Opts: bytes.Repeat(alert, 10)}, 0},
		{2, far4, 9, 10, api.Flags{}, 0}, {2, api.Addr{V: 4, B: [16]byte{255, 255, 255, 254}}, 9, 10, api.Flags{}, 0},
		{3, six(2), 7, 0, api.Flags{}, 2}, {3, six(2), 7, 1233, api.Flags{}, 2}, {3, six(2), 7, 1233, api.Flags{DF: true}, 2}, {3, six(2), 7, 1234, api.Flags{}, 2}, {3, six(2), 7, 1235, api.Flags{}, 2},
		{3, six(3), 7, 8952, api.Flags{DF: true}, 1}, {3, six(3), 7, 8953, api.Flags{}, 1}, {3, six(2), 7, 65527, api.Flags{}, 2}, {3, far6, 7, 65526, api.Flags{}, 2},
	}
	for i, r := range rows {
		data := pattern(r.n)
		l, e := h.Send(r.socket, r.dst, r.port, data, r.f)
		if e != api.OK {
			t.Errorf("P22.1: row %d: Send = %d", i, e)
			continue
		}
		from := map[int]int{1: 1000, 2: 65535, 3: 1}[r.socket]
		src := four(1)
		if r.dst.V == 6 {
			src = six(1)
		}
		p := api.Packet{V: r.dst.V, Src: src, Dst: r.dst, Proto: 17, TTL: 64, Opts: r.f.Opts}
		p.Data, _ = udp.Build(src, r.dst, api.Dgram{SPort: from, DPort: r.port, NoSum: r.f.NoSum, Data: data})
		id, mtu := ids[p.V], c.Links[r.link]
		if p.V == 4 {
			p.ID, p.DF = id, r.f.DF
			ids[4]++
		} else if 48+r.n > mtu {
			ids[6]++
		}
		want, e := cut.Cut(p, mtu, id)
		if e != api.OK || len(want) != len(l) {
			t.Errorf("P22.1: row %d: %d packets; want %d", i, len(l), len(want))
			continue
		}
		for j := range l {
			if l[j].Link != r.link || !bytes.Equal(l[j].Bytes, laid(t, want[j])) {
				t.Errorf("P22.1: row %d: packet %d over link %d: %x; want %+v", i, j, l[j].Link, l[j].Bytes, want[j])
			}
		}
	}
	if ids[4] != 12 || ids[6] != 5 {
		t.Errorf("%v identifications were needed", ids)
	}
}

// An identification is busy for Life ticks: with all of version 4 busy nothing of it goes out, messages neither, and what is refused changes nothing.
func TestBusy(t *testing.T) {
	c := dualConfig(1)
	c.Life, c.Quota.Timeout = 5, 3
	h, other := made(t, c), made(t, dualConfig(2))
	binds(t, h, any4, 7, 1, 7)
	binds(t, h, any6, 7, 2, 7)
	binds(t, other, four(2), 9, 1, 9)
	ticks(t, h, 10)
	parts := sends(t, other, 1, four(1), 7, make([]byte, 2000), api.Flags{})
	quiet(t, h, parts[0])
	for i := range 65536 {
		if p := taken(t, sends(t, h, 1, four(2), 9, nil, api.Flags{})[0]); p.ID != uint32(i) {
			t.Fatalf("P22.1: send %d has the ID %d", i, p.ID)
		}
		if i == 0 {
			ticks(t, h, 11)
		}
	}
	sendFails(t, h, 1, four(2), 9, nil, api.Flags{}, api.ErrBusy)
	sendFails(t, h, 1, four(2), 9, make([]byte, 1473), api.Flags{DF: true}, api.ErrBig)
	quiet(t, h, sends(t, other, 1, four(1), 8, nil, api.Flags{})...) // no socket, and no ID for the message
	counts(t, h, [8]int{3: 1})
	if l := ticks(t, h, 13); len(l) != 0 || len(h.State().Keys) != 0 {
		t.Errorf("P22.1: a message about a late fragment without an ID: %d", len(l))
	}
	// The other version has its own.
	for id := range uint32(3) {
		if p := taken(t, sends(t, h, 2, six(2), 9, make([]byte, 2000), api.Flags{})[0]); p.ID != id {
			t.Errorf("P22.1: ID %d of version 6; want %d", p.ID, id)
		}
	}
	sendFails(t, h, 1, four(2), 9, nil, api.Flags{}, api.ErrBusy)
	if _, e := h.Tick(14); e != api.OK {
		t.Fatal(e)
	}
	sendFails(t, h, 1, four(2), 9, nil, api.Flags{}, api.ErrBusy)
	ticks(t, h, 15)
	if p := taken(t, sends(t, h, 1, four(2), 9, nil, api.Flags{})[0]); p.ID != 0 {
		t.Errorf("P22.1: ID %d; want 0 again", p.ID)
	}
	sendFails(t, h, 1, four(2), 9, nil, api.Flags{}, api.ErrBusy)
	ticks(t, h, 16)
	if l := h.Packet(sends(t, other, 1, four(1), 8, nil, api.Flags{})[0]); len(l) != 1 || taken(t, l[0].Bytes).ID != 1 {
		t.Errorf("P22.1: the message behind that: %v", l)
	}
}

// With a Life of 0 none is ever busy: the IDs go round.
func TestNeverBusy(t *testing.T) {
	h := made(t, plainConfig(1))
	binds(t, h, any4, 7, 1, 7)
	for i := range 65536 + 10 {
		if p := taken(t, sends(t, h, 1, four(2), 9, nil, api.Flags{})[0]); p.ID != uint32(i%65536) {
			t.Fatalf("P22.1: send %d has the ID %d", i, p.ID)
		}
	}
}

// Version 6 has more identifications than version 4: none is busy, and none comes again, behind 65536.
func TestManyIdentifications(t *testing.T) {
	c := dualConfig(1)
	c.Links, c.Life = []int{1280}, 1<<32
	h := made(t, c)
	binds(t, h, any6, 7, 1, 7)
	data := make([]byte, 1233)
	for i := range 65536 + 2 {
		l := sends(t, h, 1, six(2), 9, data, api.Flags{})
		if i%4096 > 1 {
			continue
		}
		for _, b := range l {
			if p := taken(t, b); p.ID != uint32(i) || !p.Frag {
				t.Fatalf("P22.1: send %d has the ID %d", i, p.ID)
			}
		}
	}
}
