package hop

import (
	"bytes"
	"slices"
	"testing"

	"mosaic/addr"
	"mosaic/api"
	"mosaic/ip4"
	"mosaic/ip6"
)

// source is a plain generator, so that every run sees the same inputs.
type source uint64

func (s *source) next() uint64 {
	*s ^= *s << 13
	*s ^= *s >> 7
	*s ^= *s << 17
	return uint64(*s)
}

func (s *source) below(n int) int { return int((s.next() >> 11) % uint64(n)) }

// once in n times it says yes.
func (s *source) once(n int) bool { return s.below(n) == 0 }

func pick[T any](s *source, l ...T) T { return l[s.below(len(l))] }

func (s *source) bytes(n int) []byte {
	b := make([]byte, n)
	var word uint64
	for i := range b {
		if i%8 == 0 {
			word = s.next()
		}
		b[i] = byte(word >> (i % 8 * 8))
	}
	return b
}

func (s *source) plain(v int) api.Addr {
	if v == 6 {
		return six(byte(s.below(4)), byte(1+s.below(4)))
	}
	return four(byte(s.below(4)), byte(1+s.below(4)))
}

// address is most often plain and near.
func (s *source) address(v int) api.Addr {
	switch s.below(12) {
	case 0:
		l := slices.DeleteFunc(notPlain(), func(a api.Addr) bool { return a.V != v })
		return pick(s, l...)
	case 1:
		a := s.plain(v)
		a.B[0] = 30
		return a
	}
	return s.plain(v)
}

func (s *source) mtu() int {
	return pick(s, 68, 69, 75, 76, 92, 95, 96, 97, 296, 576, 1279, 1280, 1280, 1281, 1400, 1500, 1500, 65535, 68+s.below(9000))
}

func (s *source) config() api.HopConfig {
	var c api.HopConfig
	for range s.below(9) {
		if a := s.plain(pick(s, 4, 6)); !slices.Contains(c.Addrs, a) {
			c.Addrs = append(c.Addrs, a)
		}
	}
	for range pick(s, 1, 2, 3, 16) {
		c.Links = append(c.Links, s.mtu())
	}
	for range pick(s, 1, 4, 16, 32) {
		v := pick(s, 4, 6)
		bits := pick(s, 0, 8, 16, 24, 31, 32, s.below(33))
		if v == 6 {
			bits = pick(s, 0, 8, 112, 120, 127, 128, s.below(129))
		}
		net, _ := addr.Mask(s.plain(v), bits)
		r := api.Route{Net: net, Bits: bits, Link: s.below(len(c.Links))}
		if !slices.ContainsFunc(c.Routes, func(q api.Route) bool { return q.Net == r.Net && q.Bits == r.Bits }) {
			c.Routes = append(c.Routes, r)
		}
	}
	return c
}

// size is a length of data, often one at which a link of c is just long enough.
func (s *source) size(c api.HopConfig) int {
	switch s.below(40) {
	case 0, 1, 2, 3:
		return s.below(3)
	case 4:
		return s.below(66000)
	case 5, 6, 7, 8, 9, 10, 11, 12:
		return max(0, pick(s, c.Links...)-20-s.below(80)+pick(s, 0, 1, 8, 16))
	}
	return s.below(2500)
}

func (s *source) options() []byte {
	if !s.once(3) {
		return nil
	}
	var l []byte
	for len(l) < 4*s.below(11) {
		l = append(l, pick(s, []byte{1, 1, 1, 1}, []byte{7, 4, 1, 2}, []byte{0x82, 4, 3, 4}, []byte{0x94, 4, 0, 0}, []byte{0x82, 3, 5, 1})...)
	}
	return l
}

// packet is a right one.
func (s *source) packet(c api.HopConfig) api.Packet {
	p := api.Packet{V: pick(s, 4, 6), TOS: s.below(256), Proto: pick(s, 17, 1, 58, s.below(44)), TTL: pick(s, 0, 1, 2, 3, 64, 64, 64, 255)}
	p.Src, p.Dst = s.address(p.V), s.address(p.V)
	n := s.size(c)
	if p.V == 4 {
		p.ID, p.DF, p.Opts = uint32(s.below(65536)), s.once(3), s.options()
		n = min(n, 65515-len(p.Opts))
	} else {
		p.Flow, p.Frag = s.below(1<<20), s.once(2)
		n = min(n, 65527)
	}
	if p.V == 4 || p.Frag {
		p.ID = uint32(s.below(65536))
		if s.once(3) {
			p.More, n = true, max(n&^7, 8)
		}
		if s.once(3) {
			n = max(n, 1)
			p.Off = s.below((65535-n)/8+1) * 8
		}
	}
	if p.More && n > 65480 {
		n = 65480
		p.Off = 0
	}
	p.Data = s.bytes(n)
	if n > 0 && s.once(2) {
		p.Data[0] = pick[byte](s, 3, 8, 11, 127, 128)
	}
	return p
}

// bytesIn are what comes in: most often a packet's, some of them spoilt, or such as are none.
func (s *source) bytesIn(c api.HopConfig) []byte {
	p := s.packet(c)
	b, e := ip4.Build(p)
	if p.V == 6 {
		b, e = ip6.Build(p)
	}
	if e != api.OK {
		panic("not right")
	}
	switch s.below(20) {
	case 0:
		return b[:s.below(len(b)+1)]
	case 1:
		b[s.below(min(len(b), 60))] ^= byte(1 << s.below(8))
	case 2:
		return s.bytes(s.below(100))
	}
	return b
}

// subject is a router with its model, which take the same.
type subject struct {
	t      *testing.T
	h      *Hop
	m      *model
	became map[outcome]int
	told   map[outcome]int
	pieces int
	// rough: what is handed in has room behind it and is written over behind the call, as are the answers.
	rough bool
}

func newSubject(t *testing.T, c api.HopConfig) *subject {
	t.Helper()
	return &subject{t: t, h: made(t, c), m: &model{c: c}, became: map[outcome]int{}, told: map[outcome]int{}}
}

const mark = 0xa5

// packet puts bytes in, and holds what goes out against what should.
func (x *subject) packet(b []byte) []api.Out {
	x.t.Helper()
	handed := b
	if x.rough {
		room := bytes.Repeat([]byte{mark}, len(b)+16)
		copy(room, b)
		handed = room[:len(b)]
	}
	got, want := x.h.Packet(handed), x.m.packet(b)
	if !slices.EqualFunc(got, want, func(o, w api.Out) bool { return o.Link == w.Link && bytes.Equal(o.Bytes, w.Bytes) }) {
		x.t.Fatalf("P23.1: %+v: of %x go out %x; want %x", x.m.c, b, got, want)
	}
	if x.rough {
		x.over(handed, b)
		for _, o := range got {
			scribble(o.Bytes)
		}
	}
	became := x.m.becomes(b)
	x.became[became]++
	if len(want) > 0 {
		x.told[became]++
	}
	if len(want) > 1 {
		x.pieces++
	}
	return want
}

// over sees that what was handed in for b is as it was, and writes it over.
func (x *subject) over(handed, b []byte) {
	x.t.Helper()
	room := handed[:cap(handed)]
	if !bytes.Equal(handed, b) || slices.ContainsFunc(room[len(b):], func(c byte) bool { return c != mark }) {
		x.t.Fatal("P23.1: what was handed in has changed")
	}
	scribble(room)
}

// scribble turns every bit of a list and of the room behind it.
func scribble(b []byte) {
	b = b[:cap(b)]
	for i := range b {
		b[i] ^= 0xff
	}
}

// P23.1: routers of all kinds answer as the model, one packet behind the other.
func TestModel(t *testing.T) {
	g := source(2301)
	became, told, pieces := map[outcome]int{}, map[outcome]int{}, 0
	for range 1000 {
		x := newSubject(t, g.config())
		for range 40 {
			x.packet(g.bytesIn(x.m.c))
		}
		for k := nothing; k <= tooLong; k++ {
			became[k] += x.became[k]
			told[k] += x.told[k]
		}
		pieces += x.pieces
	}
	for k := nothing; k <= tooLong; k++ {
		if became[k] < 1000 || k != nothing && told[k] < 300 || k != nothing && k != sentOn && became[k]-told[k] < 300 {
			t.Errorf("too few of a kind: %v, told %v", became, told)
		}
	}
	if pieces < 500 {
		t.Errorf("only %d were cut", pieces)
	}
}
