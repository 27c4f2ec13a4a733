package recut

import (
	"bytes"
	"slices"

	"mosaic/api"
)

// source is a generator of its own, so that every run asks the same.
type source uint64

func (s *source) next() uint64 {
	*s ^= *s << 13
	*s ^= *s >> 7
	*s ^= *s << 17
	return uint64(*s)
}

func (s *source) below(n int) int { return int((s.next() >> 11) % uint64(n)) }

func (s *source) chance() bool { return s.below(2) == 0 }

func (s *source) bytes(n int) []byte {
	b := make([]byte, n)
	for i := range b {
		b[i] = byte(s.next() >> 20)
	}
	return b
}

// shuffled is a list in another order.
func (s *source) shuffled(l []api.Packet) []api.Packet {
	k := slices.Clone(l)
	for i := range k {
		j := i + s.below(len(k)-i)
		k[i], k[j] = k[j], k[i]
	}
	return k
}

func fill(n int) []byte {
	s := source(n + 1)
	return s.bytes(n)
}

func four(n int, options ...byte) api.Packet {
	return api.Packet{V: 4, TOS: 3, Src: api.Addr{V: 4, B: [16]byte{10, 0, 0, 1}}, Dst: api.Addr{V: 4, B: [16]byte{10, 0, 0, 2}},
		Proto: 17, TTL: 64, ID: 5, Opts: options, Data: fill(n)}
}

func six(n int) api.Packet {
	return api.Packet{V: 6, TOS: 3, Flow: 77, Src: api.Addr{V: 6, B: [16]byte{0x20, 1, 15: 1}}, Dst: api.Addr{V: 6, B: [16]byte{0x20, 1, 15: 2}},
		Proto: 17, TTL: 64, Data: fill(n)}
}

// piece is a packet as a fragment.
func piece(p api.Packet, off int, more bool) api.Packet {
	p.Off, p.More = off, more
	if p.V == 6 {
		p.Frag, p.ID = true, 9
	}
	return p
}

func with(p api.Packet, change func(*api.Packet)) api.Packet {
	change(&p)
	return p
}

// both are the options of the chapter's third example, of which the second is carried; of many the second and the fourth are.
func both() []byte { return []byte{7, 4, 0xaa, 0xbb, 0x82, 4, 0xcc, 0xdd} }
func many() []byte { return []byte{7, 3, 9, 0x83, 3, 4, 0x44, 2, 0xff, 5, 1, 2, 3, 0, 0, 0} }

// optionLists are options that may be, each with what is carried of it.
func optionLists() [][2][]byte {
	return [][2][]byte{
		{nil, nil},
		{both(), {0x82, 4, 0xcc, 0xdd}},
		{many(), {0x83, 3, 4, 0xff, 5, 1, 2, 3}},
		{{1, 1, 1, 1}, nil},
		{{0, 0, 0, 0}, nil},
		{{0x94, 4, 0, 0, 0, 0, 0, 0}, {0x94, 4, 0, 0}},
		{append([]byte{7, 38}, make([]byte, 38)...), nil},
		{bytes.Repeat([]byte{1}, 40), nil},
		{bytes.Repeat([]byte{0x94, 4, 5, 6}, 10), bytes.Repeat([]byte{0x94, 4, 5, 6}, 10)},
		{append(bytes.Repeat([]byte{1}, 20), bytes.Repeat([]byte{0x94, 4, 5, 6}, 5)...), bytes.Repeat([]byte{0x94, 4, 5, 6}, 5)},
	}
}

// The model: what the chapter and DOC.md say, written down without the layers below.

// carried is what later fragments have of the options; false: they are none.
func carried(b []byte) ([]byte, bool) {
	if len(b) > 40 || len(b)%4 != 0 {
		return nil, false
	}
	var out []byte
	for len(b) > 0 && b[0] != 0 {
		n := 1
		if b[0] != 1 {
			if len(b) < 2 || b[1] < 2 || int(b[1]) > len(b) {
				return nil, false
			}
			n = int(b[1])
		}
		if b[0] > 127 {
			out = append(out, b[:n]...)
		}
		b = b[n:]
	}
	if len(bytes.Trim(b, "\x00")) > 0 {
		return nil, false
	}
	for len(out)%4 != 0 {
		out = append(out, 0)
	}
	return out, true
}

func octets(l ...int) bool {
	for _, n := range l {
		if n < 0 || n > 255 {
			return false
		}
	}
	return true
}

func ends(v int, l ...api.Addr) bool {
	for _, a := range l {
		if a.V != v || v == 4 && [12]byte(a.B[4:]) != [12]byte{} {
			return false
		}
	}
	return true
}

// long is how many bytes a packet has; 0: it is not right.
func long(p api.Packet) int {
	n := len(p.Data)
	if p.V != 4 && p.V != 6 || !octets(p.TOS, p.Proto, p.TTL) || !ends(p.V, p.Src, p.Dst) {
		return 0
	}
	if p.Off < 0 || p.Off > 65535 || p.Off%8 != 0 || p.Off+n > 65535 || p.More && n%8 != 0 || (p.More || p.Off > 0) && n == 0 {
		return 0
	}
	if p.V == 4 {
		_, ok := carried(p.Opts)
		if !ok || p.Flow != 0 || p.ID > 65535 || p.Frag || 20+len(p.Opts)+n > 65535 {
			return 0
		}
		return 20 + len(p.Opts) + n
	}
	if p.DF || len(p.Opts) > 0 || p.Flow < 0 || p.Flow >= 1<<20 || p.Proto == 44 {
		return 0
	}
	if p.Frag {
		if n+8 > 65535 {
			return 0
		}
		return 48 + n
	}
	if p.ID != 0 || p.Off != 0 || p.More || n > 65535 {
		return 0
	}
	return 40 + n
}

func same(p, q api.Packet) bool {
	if !bytes.Equal(p.Opts, q.Opts) || !bytes.Equal(p.Data, q.Data) || p.Src != q.Src || p.Dst != q.Dst {
		return false
	}
	if p.V != q.V || p.TOS != q.TOS || p.Flow != q.Flow || p.Proto != q.Proto || p.TTL != q.TTL || p.ID != q.ID {
		return false
	}
	return p.DF == q.DF && p.More == q.More && p.Frag == q.Frag && p.Off == q.Off
}

func alike(l, k []api.Packet) bool { return slices.EqualFunc(l, k, same) }

// is is P11.1, one condition behind the other.
func is(p api.Packet, mtu int, l []api.Packet) bool {
	if long(p) == 0 || mtu < 68 || mtu > 65535 || len(l) == 0 {
		return false
	}
	if len(l) == 1 {
		return same(p, l[0]) && long(p) <= mtu
	}
	if p.V != 4 || p.DF {
		return false
	}
	later, _ := carried(p.Opts)
	var all []byte
	for i, q := range l {
		if long(q) == 0 || long(q) > mtu {
			return false
		}
		if q.TOS != p.TOS || q.Src != p.Src || q.Dst != p.Dst || q.Proto != p.Proto || q.TTL != p.TTL || q.ID != p.ID || q.DF {
			return false
		}
		if i == 0 && !bytes.Equal(q.Opts, p.Opts) || i > 0 && !bytes.Equal(q.Opts, later) {
			return false
		}
		if i == 0 && q.Off != p.Off || i > 0 && q.Off != l[i-1].Off+len(l[i-1].Data) {
			return false
		}
		if i < len(l)-1 && !q.More || i == len(l)-1 && q.More != p.More {
			return false
		}
		all = append(all, q.Data...)
	}
	return bytes.Equal(all, p.Data)
}

// parts lays the pieces of these sizes that a packet has, each in memory of its own.
func parts(p api.Packet, sizes ...int) []api.Packet {
	var l []api.Packet
	at := 0
	for i, n := range sizes {
		q := p
		q.Off, q.More, q.Data, q.Opts = p.Off+at, i < len(sizes)-1 || p.More, bytes.Clone(p.Data[at:at+n]), bytes.Clone(p.Opts)
		if i > 0 {
			q.Opts, _ = carried(p.Opts)
		}
		l = append(l, q)
		at += n
	}
	return l
}

// sizes are those of P11.2 for a packet that is longer than mtu, each found by counting down from what is left.
func sizes(p api.Packet, mtu int) []int {
	later, _ := carried(p.Opts)
	var l []int
	head := 20 + len(p.Opts)
	for left := len(p.Data); left > 0; head = 20 + len(later) {
		n := min(left, mtu)
		for head+n > mtu || n != left && n%8 != 0 {
			n--
		}
		l = append(l, n)
		left -= n
	}
	return l
}

// wanted is what Recut should answer.
func wanted(p api.Packet, mtu int) ([]api.Packet, api.Errno) {
	switch {
	case long(p) == 0 || mtu < 68 || mtu > 65535:
		return nil, api.ErrArg
	case long(p) <= mtu:
		return []api.Packet{p}, api.OK
	case p.V == 6 || p.DF:
		return nil, api.ErrBig
	}
	return parts(p, sizes(p, mtu)...), api.OK
}

// clash is whether a right packet is no fragment beside another one of the same datagram.
func clash(p, q api.Packet) bool {
	pEnd, qEnd := p.Off+len(p.Data), q.Off+len(q.Data)
	switch {
	case !p.More && !q.More:
		return true
	case max(p.Off, q.Off) < min(pEnd, qEnd):
		return true
	case !p.More:
		return qEnd > pEnd || q.Off >= pEnd
	case !q.More:
		return pEnd > qEnd || p.Off >= qEnd
	}
	return false
}

// join is P11.3, with the datagram's bytes laid down one by one.
func join(l []api.Packet) (api.Packet, api.Errno) {
	for _, p := range l {
		if long(p) == 0 || p.V != l[0].V || p.Src != l[0].Src || p.Dst != l[0].Dst || p.Proto != l[0].Proto || p.ID != l[0].ID {
			return api.Packet{}, api.ErrArg
		}
	}
	for i, p := range l {
		for _, q := range l[:i] {
			if clash(p, q) {
				return api.Packet{}, api.ErrArg
			}
		}
	}
	var all [65535]byte
	came, end, first := 0, -1, -1
	for i, p := range l {
		for k, x := range p.Data {
			all[p.Off+k] = x
			came++
		}
		if !p.More {
			end = p.Off + len(p.Data)
		}
		if p.Off == 0 {
			first = i
		}
	}
	// Nothing overlaps or reaches beyond the end, so it is complete if as many bytes came as it has.
	if end < 0 || first < 0 || came != end {
		return api.Packet{}, api.ErrGap
	}
	p := l[first]
	p.Data, p.More = all[:end], false
	if p.V == 6 {
		p.Frag, p.ID = false, 0
	}
	if long(p) == 0 {
		return api.Packet{}, api.ErrArg
	}
	return p, api.OK
}

func lengths(l []api.Packet) []int {
	var n []int
	for _, p := range l[:min(len(l), 30)] {
		n = append(n, len(p.Data))
	}
	return n
}

// without is a list less one packet.
func without(l []api.Packet, i int) []api.Packet {
	return append(slices.Clone(l[:i]), l[i+1:]...)
}

// inserted is a list with one packet more.
func inserted(l []api.Packet, at int, p api.Packet) []api.Packet {
	return append(append(slices.Clone(l[:at]), p), l[at:]...)
}

// orders are all orders of a list.
func orders(l []api.Packet) [][]api.Packet {
	if len(l) < 2 {
		return [][]api.Packet{l}
	}
	var all [][]api.Packet
	for i, p := range l {
		for _, k := range orders(without(l, i)) {
			all = append(all, append([]api.Packet{p}, k...))
		}
	}
	return all
}

// partings are all ways to part so many units of 8 bytes, with some bytes more at the end.
func partings(units, more int) [][]int {
	var all [][]int
	for word := range 1 << (units - 1) {
		l := []int{8}
		for i := range units - 1 {
			if word>>i&1 == 1 {
				l = append(l, 8)
			} else {
				l[len(l)-1] += 8
			}
		}
		if more == 0 {
			all = append(all, l)
			continue
		}
		all = append(all, append(slices.Clone(l), more))
		l[len(l)-1] += more
		all = append(all, l)
	}
	return all
}

// packet is any right packet, fragments and such as have DF too.
func (s *source) packet() api.Packet {
	n := s.below(300)
	if s.below(8) == 0 {
		n = s.below(9000)
	}
	if s.below(6) == 0 {
		p := six(0)
		p.TOS, p.Flow, p.TTL, p.Proto, p.Data = s.below(256), s.below(1<<20), s.below(256), s.below(44), s.bytes(n)
		return p
	}
	all := optionLists()
	p := four(0, all[s.below(len(all))][0]...)
	p.TOS, p.TTL, p.Proto, p.ID, p.DF = s.below(256), s.below(256), s.below(256), uint32(s.below(65536)), s.below(6) == 0
	p.More = s.chance()
	if p.More {
		n += 8 - n%8
	}
	if n > 0 && s.chance() {
		p.Off = 8 * s.below((65535-n)/8+1)
	}
	p.Data = s.bytes(n)
	return p
}

// parting is any way to part so many bytes at multiples of 8.
func (s *source) parting(n, most int) []int {
	var l []int
	for n > 0 {
		k := min(n, 8*(1+s.below(most)))
		l = append(l, k)
		n -= k
	}
	return l
}
