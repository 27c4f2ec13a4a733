package hop

import (
	"bytes"
	"slices"

	"mosaic/addr"
	"mosaic/api"
	"mosaic/ip4"
	"mosaic/ip6"
	"mosaic/opts"
)

// model is the chapter's words over the bytes themselves: which bytes are a packet is asked of ip4 and ip6, all else is read, cut and laid here anew.
type model struct {
	c    api.HopConfig
	next int // the number of the next message
}

// view is what a router reads of a packet's bytes.
type view struct {
	v, ttl, proto, off int
	df                 bool
	src, dst           api.Addr
	data               []byte
}

func number(b []byte) int { return int(b[0])<<8 | int(b[1]) }

func address(v int, b []byte) api.Addr {
	a := api.Addr{V: v}
	copy(a.B[:], b)
	return a
}

// see reads a packet; false: the bytes are none.
func see(b []byte) (view, bool) {
	if _, e := ip4.Parse(b); e == api.OK {
		return view{
			v: 4, ttl: int(b[8]), proto: int(b[9]), off: number(b[6:]) % 8192 * 8, df: b[6]&0x40 != 0,
			src: address(4, b[12:16]), dst: address(4, b[16:20]), data: b[b[0]&15*4:],
		}, true
	}
	if _, e := ip6.Parse(b); e != api.OK {
		return view{}, false
	}
	x := view{v: 6, ttl: int(b[7]), proto: int(b[6]), src: address(6, b[8:24]), dst: address(6, b[24:40]), data: b[40:]}
	if x.proto == 44 {
		x.proto, x.off, x.data = int(b[40]), number(b[42:])&^7, b[48:]
	}
	return x, true
}

// link is the one to an address; below 0: there is none.
func (m *model) link(a api.Addr) int {
	link, bits := -1, -1
	for _, r := range m.c.Routes {
		if addr.Within(a, r.Net, r.Bits) && r.Bits > bits {
			link, bits = r.Link, r.Bits
		}
	}
	if link >= 0 && a.V == 6 && m.c.Links[link] < 1280 {
		return -1
	}
	return link
}

func (m *model) own(a api.Addr) bool { return slices.Contains(m.c.Addrs, a) }

func plain(a api.Addr) bool { return addr.Kind(a) == api.Plain }

// outcome is what becomes of a packet.
type outcome int

const (
	nothing outcome = iota
	sentOn
	tooOld
	noWay
	tooLong
)

// becomes says what a packet asks for, whether or not its sender may be told.
func (m *model) becomes(b []byte) outcome {
	x, is := see(b)
	switch {
	case !is || m.own(x.dst) || !plain(x.dst):
		return nothing
	case x.ttl < 2:
		return tooOld
	case m.link(x.dst) < 0:
		return noWay
	case len(b) > m.c.Links[m.link(x.dst)] && (x.v == 6 || x.df):
		return tooLong
	}
	return sentOn
}

// mayTell is the chapter's five points.
func (m *model) mayTell(x view) bool {
	if !plain(x.src) || m.own(x.src) || x.off > 0 || m.link(x.src) < 0 {
		return false
	}
	if x.v == 4 && x.proto == 1 && (len(x.data) == 0 || bytes.IndexByte([]byte{3, 4, 5, 11, 12}, x.data[0]) >= 0) {
		return false
	}
	if x.v == 6 && x.proto == 58 && (len(x.data) == 0 || x.data[0] < 128) {
		return false
	}
	return slices.ContainsFunc(m.c.Addrs, func(a api.Addr) bool { return a.V == x.v })
}

func (m *model) packet(b []byte) []api.Out {
	x, _ := see(b)
	var head []byte
	switch m.becomes(b) {
	case nothing:
		return nil
	case sentOn:
		return m.over(m.link(x.dst), aged(b))
	case tooOld:
		head = map[int][]byte{4: {11, 0, 0, 0, 0, 0, 0, 0}, 6: {3, 0, 0, 0, 0, 0, 0, 0}}[x.v]
	case noWay:
		head = map[int][]byte{4: {3, 0, 0, 0, 0, 0, 0, 0}, 6: {1, 0, 0, 0, 0, 0, 0, 0}}[x.v]
	case tooLong:
		mtu := m.c.Links[m.link(x.dst)]
		head = map[int][]byte{4: {3, 4, 0, 0, 0, 0, byte(mtu >> 8), byte(mtu)}, 6: {2, 0, 0, 0, 0, 0, byte(mtu >> 8), byte(mtu)}}[x.v]
	}
	if !m.mayTell(x) {
		return nil
	}
	return m.over(m.link(x.src), m.message(x, append(head, quote(x, b)...)))
}

// aged is a packet with its TTL one less.
func aged(b []byte) []byte {
	b = bytes.Clone(b)
	if b[0]>>4 == 6 {
		b[7]--
		return b
	}
	b[8]--
	return summed(b)
}

// summed sets the checksum of a head of version 4.
func summed(b []byte) []byte {
	b[10], b[11] = 0, 0
	s := 65535 - total(b[:b[0]&15*4])
	b[10], b[11] = byte(s>>8), byte(s)
	return b
}

// total is the sum of bytes as words, with the carries added in.
func total(l ...[]byte) int {
	n := 0
	for _, b := range l {
		for i, c := range b {
			if i%2 == 0 {
				n += int(c) << 8
			} else {
				n += int(c)
			}
		}
	}
	for n > 65535 {
		n = n>>16 + n&65535
	}
	return n
}

func quote(x view, b []byte) []byte {
	if x.v == 6 {
		return b[:min(len(b), 1232)]
	}
	return b[:min(len(b), len(b)-len(x.data)+8)]
}

// message is the packet that tells body to a packet's source.
func (m *model) message(x view, body []byte) []byte {
	src := api.Addr{V: 7}
	for _, a := range m.c.Addrs {
		if a.V == x.v && (src.V == 7 || bytes.Compare(a.B[:], src.B[:]) < 0) {
			src = a
		}
	}
	n := len(body)
	if x.v == 6 {
		b := append([]byte{0x60, 0, 0, 0, byte(n >> 8), byte(n), 58, 64}, src.B[:]...)
		b = append(b, x.src.B[:]...)
		s := 65535 - total(src.B[:], x.src.B[:], []byte{byte(n >> 8), byte(n)}, []byte{0, 58}, body)
		body[2], body[3] = byte(s>>8), byte(s)
		return append(b, body...)
	}
	s := 65535 - total(body)
	body[2], body[3] = byte(s>>8), byte(s)
	n += 20
	b := []byte{0x45, 0, byte(n >> 8), byte(n), byte(m.next >> 8), byte(m.next), 0, 0, 64, 1, 0, 0}
	m.next = (m.next + 1) % 65536
	b = append(b, src.B[:4]...)
	b = append(b, x.src.B[:4]...)
	return append(summed(b), body...)
}

// over cuts a packet for a link, if it must be cut.
func (m *model) over(link int, b []byte) []api.Out {
	mtu := m.c.Links[link]
	if len(b) <= mtu {
		return []api.Out{{Link: link, Bytes: b}}
	}
	at := int(b[0]&15) * 4
	head, data, flags := b[:at], b[at:], number(b[6:])
	var l []api.Out
	for off := flags % 8192; ; {
		last := len(head)+len(data) <= mtu
		n := len(data)
		if !last {
			n = (mtu - len(head)) / 8 * 8
		}
		p := slices.Concat(head, data[:n])
		f := flags&^8191 | off
		if !last {
			f |= 8192
		}
		p[0], p[2], p[3], p[6], p[7] = byte(64+len(head)/4), byte(len(p)>>8), byte(len(p)), byte(f>>8), byte(f)
		l = append(l, api.Out{Link: link, Bytes: summed(p)})
		if last {
			return l
		}
		data, off = data[n:], off+n/8
		head = slices.Concat(b[:20], opts.Carry(b[20:at]))
	}
}
