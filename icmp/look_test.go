package icmp

import (
	"bytes"
	"testing"

	"mosaic/api"
	"mosaic/ip4"
	"mosaic/ip6"
	"mosaic/opts"
)

// five are the errors about a packet, with what the chapter's table says of them.
var five = []struct {
	name   string
	of     func([]byte) (api.Message, api.Errno)
	t4, c4 int
	t6, c6 int
	rest   uint32
}{
	{"TooBig", func(b []byte) (api.Message, api.Errno) { return TooBig(b, 576) }, 3, 4, 2, 0, 576},
	{"NoPort", NoPort, 3, 3, 1, 4, 0},
	{"NoRoute", NoRoute, 3, 0, 1, 0, 0},
	{"TimeUp", TimeUp, 11, 0, 3, 0, 0},
	{"LateParts", LateParts, 11, 1, 3, 1, 0},
}

// packet is a right one of version v with so much data at most.
func (s *source) packet(v, most int) api.Packet {
	p := api.Packet{V: v, TOS: s.octet(), Src: s.address(v), Dst: s.address(v), Proto: s.octet(), TTL: s.octet(), Data: s.bytes(s.below(most + 1))}
	if v == 4 {
		p.ID = uint32(s.below(65536))
		p.DF = s.chance()
		p.Opts = s.options()
	} else {
		p.Flow = s.below(1 << 20)
		if p.Proto == 44 {
			p.Proto = 45
		}
		p.Frag = s.chance()
	}
	if v == 6 && p.Frag {
		p.ID = uint32(s.next() >> 20)
	}
	if v == 4 || p.Frag {
		if len(p.Data) > 0 {
			p.Off = 8 * s.below((65535-len(p.Data))/8+1)
		}
		if n := len(p.Data) / 8 * 8; n > 0 && s.chance() {
			p.Data, p.More = p.Data[:n], true
		}
	}
	return p
}

// options are a head's: of each length, the longest too.
func (s *source) options() []byte {
	b := bytes.Repeat([]byte{1}, 4*s.below(11))
	if len(b) > 0 && s.chance() {
		b[0], b[1] = 0x94, byte(len(b))
	}
	if len(b) > 0 && s.chance() {
		b[len(b)-1] = 0
	}
	if !opts.Valid(b) {
		return nil
	}
	return b
}

func lay(t *testing.T, p api.Packet) []byte {
	t.Helper()
	b, e := ip4.Build(p)
	if p.V == 6 {
		b, e = ip6.Build(p)
	}
	if e != api.OK {
		t.Fatalf("a packet that is not right: %v", p)
	}
	return b
}

func sameP(p, q api.Packet) bool {
	return p.V == q.V && p.TOS == q.TOS && p.Flow == q.Flow && p.Src == q.Src && p.Dst == q.Dst && p.Proto == q.Proto && p.TTL == q.TTL && p.ID == q.ID && p.DF == q.DF && p.More == q.More && p.Frag == q.Frag && p.Off == q.Off && bytes.Equal(p.Opts, q.Opts) && bytes.Equal(p.Data, q.Data)
}

func word16(b []byte, at int) int { return int(b[at])*256 + int(b[at+1]) }

// seen4 is the chapter's Look at a quote of version 4.
func seen4(b []byte) (p api.Packet, n int, e api.Errno) {
	if len(b) < 20 {
		return p, 0, api.ErrShort
	}
	head := int(b[0]%16) * 4
	if b[0]/16 != 4 || head < 20 {
		return p, 0, api.ErrForm
	}
	if len(b) < head {
		return p, 0, api.ErrShort
	}
	if word16(b, 10) != 65535-ring(put(b[:head], 10, 0, 0)) {
		return p, 0, api.ErrSum
	}
	if b[6] >= 128 || word16(b, 2) < head {
		return p, 0, api.ErrForm
	}
	if !opts.Valid(b[20:head]) {
		return p, 0, api.ErrOpt
	}
	p = api.Packet{V: 4, TOS: int(b[1]), Src: api.Addr{V: 4}, Dst: api.Addr{V: 4}, Proto: int(b[9]), TTL: int(b[8]), ID: uint32(word16(b, 4)), DF: b[6]/64%2 == 1, More: b[6]/32%2 == 1, Off: word16(b, 6) % 8192 * 8, Opts: b[20:head]}
	copy(p.Src.B[:4], b[12:16])
	copy(p.Dst.B[:4], b[16:20])
	for at := head; at < len(b) && at < word16(b, 2); at++ {
		p.Data = append(p.Data, b[at])
	}
	return p, word16(b, 2), api.OK
}

// seen6 is the chapter's Look at a quote of version 6.
func seen6(b []byte) (p api.Packet, n int, e api.Errno) {
	if len(b) < 40 {
		return p, 0, api.ErrShort
	}
	if b[0]/16 != 6 {
		return p, 0, api.ErrForm
	}
	told, head := word16(b, 4), 40
	if b[6] == 44 {
		if len(b) < 48 {
			return p, 0, api.ErrShort
		}
		if b[41] != 0 || b[43]&6 != 0 || b[40] == 44 || told < 8 {
			return p, 0, api.ErrForm
		}
		head = 48
	}
	p = api.Packet{V: 6, TOS: int(b[0]%16)*16 + int(b[1]/16), Flow: int(b[1]%16)*65536 + word16(b, 2), Src: api.Addr{V: 6}, Dst: api.Addr{V: 6}, Proto: int(b[6]), TTL: int(b[7])}
	copy(p.Src.B[:], b[8:24])
	copy(p.Dst.B[:], b[24:40])
	if head == 48 {
		p.Frag, p.Proto = true, int(b[40])
		p.Off, p.More = word16(b, 42)/8*8, b[43]%2 == 1
		p.ID = uint32(word16(b, 44))*65536 + uint32(word16(b, 46))
	}
	for at := head; at < len(b) && at < 40+told; at++ {
		p.Data = append(p.Data, b[at])
	}
	return p, 40 + told, api.OK
}

func seen(m api.Message) (api.Packet, int, api.Errno) {
	switch m.V {
	case 4:
		return seen4(m.Body)
	case 6:
		return seen6(m.Body)
	}
	return api.Packet{}, 0, api.ErrArg
}

func checkLook(t *testing.T, m api.Message) api.Errno {
	t.Helper()
	want, long, code := seen(m)
	p, n, e := Look(m)
	if e != code || n != long || !sameP(p, want) {
		t.Fatalf("P8.1: Look of V %d, %d bytes, % x: %+v, %d, %d, want %+v, %d, %d", m.V, len(m.Body), front(m.Body), p, n, e, want, long, code)
	}
	return e
}

// sealed is b, of 20 bytes or more, with its head's own checksum.
func sealed(b []byte) []byte {
	head := min(max(int(b[0]%16)*4, 20), len(b))
	s := 65535 - ring(put(b[:head], 10, 0, 0))
	return put(b, 10, byte(s>>8), byte(s))
}

// checkAbout asks for all five errors about a right packet's bytes, and looks at them.
func checkAbout(t *testing.T, p api.Packet) {
	t.Helper()
	b := lay(t, p)
	cut := p
	quote := b[:min(len(b), 1232)]
	if p.V == 4 {
		cut.Data = p.Data[:min(len(p.Data), 8)]
		quote = b[:20+len(p.Opts)+len(cut.Data)]
	} else {
		head := len(b) - len(p.Data)
		cut.Data = p.Data[:min(len(p.Data), 1232-head)]
	}
	for _, k := range five {
		want := api.Message{V: 4, Type: k.t4, Code: k.c4, Rest: k.rest, Body: quote}
		if p.V == 6 {
			want.V, want.Type, want.Code = 6, k.t6, k.c6
		}
		m, e := k.of(b)
		if !same(m, want) || e != api.OK {
			t.Fatalf("P8.1: %s of % x: %d, %d, %d, %d, % x, %d", k.name, front(b), m.V, m.Type, m.Code, m.Rest, front(m.Body), e)
		}
		if x, n, e := Look(m); !sameP(x, cut) || n != len(b) || e != api.OK {
			t.Fatalf("P8.3: Look of %s: %+v, %d, %d, want %+v, %d", k.name, x, n, e, cut, len(b))
		}
		checkLook(t, m)
		if !IsError(m) {
			t.Fatalf("P8.3: %s of version %d is no error", k.name, m.V)
		}
		out, e := Build(p.Src, p.Dst, m)
		if long := map[int]int{4: 76, 6: 1240}[p.V]; len(out) > long || e != api.OK {
			t.Fatalf("P8.3: %s has %d bytes, %d", k.name, len(out), e)
		}
	}
}

func abc() api.Packet {
	return api.Packet{V: 4, Src: four(1), Dst: four(2), Proto: 17, TTL: 64, ID: 7, Data: []byte("abc")}
}

// optioned4 has options and data, framed6 a fragment header.
func optioned4() api.Packet {
	return api.Packet{V: 4, TOS: 3, Src: four(1), Dst: four(2), Proto: 17, TTL: 1, ID: 65535, DF: true, More: true, Off: 16, Opts: []byte{0x94, 4, 0, 0}, Data: []byte("abcdefgh")}
}

func framed6() api.Packet {
	return api.Packet{V: 6, TOS: 0xab, Flow: 0x12345, Src: six(1), Dst: six(2), Proto: 17, TTL: 3, ID: 1<<31 + 5, Frag: true, More: true, Off: 1232, Data: []byte("abcdefgh")}
}

func TestExampleErrors(t *testing.T) {
	b := lay(t, abc())
	m, e := TooBig(b, 576)
	if !same(m, api.Message{V: 4, Type: 3, Code: 4, Rest: 576, Body: b}) || len(b) != 23 || e != api.OK {
		t.Errorf("P8.1: example 2: %v, %d", m, e)
	}
	if p, n, e := Look(m); !sameP(p, abc()) || n != 23 || e != api.OK {
		t.Errorf("P8.3: example 2: %v, %d, %d", p, n, e)
	}
	long := abc()
	long.Data = bytes.Repeat([]byte("abcdefghij"), 10)
	m, e = TooBig(lay(t, long), 576)
	if len(m.Body) != 28 || e != api.OK {
		t.Errorf("P8.1: example 3: %d bytes, %d", len(m.Body), e)
	}
	long.Data = []byte("abcdefgh")
	if p, n, e := Look(m); !sameP(p, long) || n != 120 || e != api.OK {
		t.Errorf("P8.3: example 3: %v, %d, %d", p, n, e)
	}
	if _, _, e := Look(api.Message{V: 4, Body: b[:19]}); e != api.ErrShort {
		t.Errorf("P8.1: Look of 19 bytes: %d", e)
	}
	if _, _, e := Look(api.Message{V: 4, Body: make([]byte, 20)}); e != api.ErrForm {
		t.Errorf("P8.1: Look of 20 zeros: %d", e)
	}
	if m, e := NoPort(b[:22]); e != api.ErrArg || !nothing(m) {
		t.Errorf("P8.1: NoPort of 22 bytes: %d", e)
	}
	if m, e := TooBig(b, 65536); e != api.ErrArg || !nothing(m) {
		t.Errorf("P8.1: an mtu of 65536: %d", e)
	}
}

func TestMTUs(t *testing.T) {
	for _, p := range []api.Packet{abc(), framed6()} {
		b := lay(t, p)
		for _, mtu := range numbers {
			m, e := TooBig(b, mtu)
			if mtu >= 0 && mtu <= 65535 {
				if e != api.OK || m.Rest != uint32(mtu) || !bytes.Equal(m.Body, b) {
					t.Fatalf("P8.1: TooBig of %d: %d, %d", mtu, m.Rest, e)
				}
			} else if e != api.ErrArg || !nothing(m) {
				t.Fatalf("P8.1: TooBig of %d: %d", mtu, e)
			}
			if m, e := TooBig(b[1:], mtu); e != api.ErrArg || !nothing(m) {
				t.Fatalf("P8.1: TooBig of no packet's bytes and %d: %d", mtu, e)
			}
		}
	}
}

// TestQuotes: packets at the lengths by which quotes differ.
func TestQuotes(t *testing.T) {
	s := source(80)
	for words := range 11 {
		for _, n := range []int{0, 1, 7, 8, 9, 16, 100, 1300, 65515 - 4*words} {
			p := abc()
			p.Opts = bytes.Repeat([]byte{1}, 4*words)
			p.Data = s.bytes(n)
			checkAbout(t, p)
		}
	}
	for _, whole := range []int{48, 49, 56, 1000, 1223, 1224, 1231, 1232, 1233, 1240, 1280, 5000, 65575} {
		p := framed6()
		p.More, p.Off = false, 0
		p.Data = s.bytes(whole - 48)
		checkAbout(t, p)
		p.Frag, p.ID = false, 0
		p.Data = s.bytes(whole - 40)
		checkAbout(t, p)
	}
	for _, n := range []int{8, 1176, 1184, 1192, 1232} {
		p := framed6()
		p.Data = s.bytes(n)
		checkAbout(t, p)
	}
}

func TestRandomPackets(t *testing.T) {
	s := source(808)
	for range 6000 {
		v := 4 + 2*s.below(2)
		checkAbout(t, s.packet(v, []int{12, 40, 1300}[s.below(3)]))
	}
	for range 20 {
		checkAbout(t, s.packet(4, 65475))
		checkAbout(t, s.packet(6, 65527))
	}
}

// TestNoPacket: bytes that are no right packet's are ErrArg of all five.
func TestNoPacket(t *testing.T) {
	for _, p := range []api.Packet{abc(), optioned4(), framed6(), {V: 6, Src: six(1), Dst: six(2), Data: []byte{1}}} {
		b := lay(t, p)
		for n := range b {
			checkNone(t, b[:n])
		}
		checkNone(t, append(bytes.Clone(b), 0))
		for _, top := range []byte{0, 0x30, 0x50, 0x70, 0xf0} {
			checkNone(t, put(b, 0, b[0]&15|top))
		}
	}
	b := lay(t, optioned4())
	for _, c := range [][]byte{nil, {}, make([]byte, 20), make([]byte, 40), make([]byte, 65576), put(b, 8, 9), sealed(put(b, 6, b[6]|128)), sealed(put(b, 21, 1)), sealed(put(b, 7, 0xff, 0xff)), sealed(put(b, 3, 31)), put(lay(t, framed6()), 41, 1), put(lay(t, framed6()), 40, 44)} {
		checkNone(t, c)
	}
}

func checkNone(t *testing.T, b []byte) {
	t.Helper()
	_, e4 := ip4.Parse(b)
	_, e6 := ip6.Parse(b)
	if e4 == api.OK || e6 == api.OK {
		return
	}
	for _, k := range five {
		if m, e := k.of(b); e != api.ErrArg || !nothing(m) {
			t.Fatalf("P8.1: %s of %d bytes, % x: %d", k.name, len(b), front(b), e)
		}
	}
}

func TestLookAtFaults(t *testing.T) {
	b, c := lay(t, optioned4()), lay(t, framed6())
	plain := lay(t, api.Packet{V: 6, Src: six(1), Dst: six(2), Proto: 17})
	for _, x := range []struct {
		what string
		v    int
		b    []byte
		e    api.Errno
	}{
		{"V 5", 5, b, api.ErrArg}, {"V 0", 0, nil, api.ErrArg}, {"no bytes of version 4", 4, nil, api.ErrShort}, {"no bytes of version 6", 6, nil, api.ErrShort},
		{"19 bytes", 4, b[:19], api.ErrShort}, {"19 bytes of another version", 4, c[:19], api.ErrShort}, {"another version", 4, c, api.ErrForm},
		{"a head of 16", 4, sealed(put(b, 0, 0x44)), api.ErrForm}, {"a head of 0", 4, put(b, 0, 0x40), api.ErrForm}, {"20 bytes of a head of 24", 4, b[:20], api.ErrShort}, {"23 of 24", 4, b[:23], api.ErrShort}, {"a head of 60", 4, put(b, 0, 0x4f), api.ErrShort},
		{"a sum", 4, put(b, 8, 2), api.ErrSum}, {"0 for a sum", 4, put(b, 10, 0, 0), api.ErrSum}, {"the reserved flag", 4, sealed(put(b, 6, b[6]|128)), api.ErrForm}, {"a length of 23", 4, sealed(put(b, 3, 23)), api.ErrForm}, {"a length of 0", 4, sealed(put(b, 3, 0)), api.ErrForm},
		{"options", 4, sealed(put(b, 21, 1)), api.ErrOpt}, {"options that are too long", 4, sealed(put(b, 21, 5)), api.ErrOpt}, {"something behind an end", 4, sealed(put(b, 20, 0)), api.ErrOpt},
		{"39 bytes", 6, c[:39], api.ErrShort}, {"39 bytes of no version", 6, make([]byte, 39), api.ErrShort}, {"40 zeros", 6, make([]byte, 40), api.ErrForm}, {"version 4 in 6", 6, append(bytes.Clone(b), b...), api.ErrForm},
		{"40 of 48", 6, c[:40], api.ErrShort}, {"47 of 48", 6, c[:47], api.ErrShort}, {"47 of 48, and a fault", 6, put(c, 41, 1)[:47], api.ErrShort},
		{"the reserved byte", 6, put(c, 41, 1), api.ErrForm}, {"the reserved bit 2", 6, put(c, 43, c[43]|2), api.ErrForm}, {"the reserved bit 4", 6, put(c, 43, c[43]|4), api.ErrForm}, {"44 again", 6, put(c, 40, 44), api.ErrForm}, {"a length of 7", 6, put(c, 5, 7), api.ErrForm}, {"a length of 0", 6, put(c, 5, 0), api.ErrForm},
		{"24 bytes of a head of 24", 4, b[:24], api.OK}, {"a length of 24", 4, sealed(put(b, 3, 24)), api.OK}, {"48 bytes", 6, c[:48], api.OK}, {"a length of 8", 6, put(c, 5, 8), api.OK}, {"40 bytes", 6, plain, api.OK}, {"a length of 7 without a fragment header", 6, put(plain, 5, 7), api.OK},
	} {
		m := api.Message{V: x.v, Type: 3, Body: x.b}
		if e := checkLook(t, m); e != x.e {
			t.Errorf("P8.1: Look at %s: %d, want %d", x.what, e, x.e)
		}
		if p, n, e := Look(m); e != api.OK && (n != 0 || !sameP(p, api.Packet{})) {
			t.Errorf("P8.1: Look at %s tells %v, %d beside %d", x.what, p, n, e)
		}
	}
}

// TestLookOrder lays two faults into one quote: the error that is named first is told.
func TestLookOrder(t *testing.T) {
	type fault struct {
		e    api.Errno
		make func(b []byte) []byte
	}
	for v, faults := range map[int][]fault{
		4: {
			{api.ErrShort, func(b []byte) []byte { return b[:19] }},
			{api.ErrForm, func(b []byte) []byte { return put(b, 0, 0x66) }},
			{api.ErrShort, func(b []byte) []byte { return b[:23] }},
			{api.ErrSum, func(b []byte) []byte { return put(b, 8, b[8]+1) }},
			{api.ErrForm, func(b []byte) []byte { return sealed(put(b, 6, b[6]|128)) }},
			{api.ErrForm, func(b []byte) []byte { return sealed(put(b, 3, 23)) }},
			{api.ErrOpt, func(b []byte) []byte { return sealed(put(b, 21, 1)) }},
		},
		6: {
			{api.ErrShort, func(b []byte) []byte { return b[:39] }},
			{api.ErrForm, func(b []byte) []byte { return put(b, 0, 0x46) }},
			{api.ErrShort, func(b []byte) []byte { return b[:47] }},
			{api.ErrForm, func(b []byte) []byte { return put(b, 41, 1) }},
			{api.ErrForm, func(b []byte) []byte { return put(b, 5, 7) }},
		},
	} {
		whole := lay(t, map[int]api.Packet{4: optioned4(), 6: framed6()}[v])
		for i, one := range faults {
			if e := checkLook(t, api.Message{V: v, Body: one.make(whole)}); e != one.e {
				t.Errorf("P8.1: version %d, fault %d alone: %d, want %d", v, i, e, one.e)
			}
			for j, other := range faults[i+1:] {
				// The later fault first, so that the earlier one's change stands.
				if e := checkLook(t, api.Message{V: v, Body: one.make(other.make(whole))}); e != one.e {
					t.Errorf("P8.1: version %d, faults %d and %d: %d, want %d", v, i, i+1+j, e, one.e)
				}
			}
		}
	}
}

// TestLookAtTheMessage: Type, Code and Rest are not looked at, but V is.
func TestLookAtTheMessage(t *testing.T) {
	for _, p := range []api.Packet{optioned4(), framed6()} {
		b := lay(t, p)
		for _, n := range numbers {
			m := api.Message{V: p.V, Type: n, Code: n, Rest: uint32(n), Body: b}
			if q, long, e := Look(m); !sameP(p, q) || long != len(b) || e != api.OK {
				t.Fatalf("P8.1: Look of Type %d: %d", n, e)
			}
			m.V = n
			if e := checkLook(t, m); n != 4 && n != 6 && e != api.ErrArg {
				t.Fatalf("P8.1: Look of V %d: %d", n, e)
			}
		}
	}
}

// TestLookAtLengths: every length that may be told, with less and with more data than that.
func TestLookAtLengths(t *testing.T) {
	for _, p := range []api.Packet{abc(), optioned4(), framed6(), {V: 6, Src: six(1), Dst: six(2), Data: []byte("abcdefgh")}} {
		b := append(lay(t, p), "more that stands behind it"...)
		head := len(lay(t, p)) - len(p.Data)
		for n := range 65536 {
			c := put(b, 4, byte(n>>8), byte(n))
			told, least := 40+n, head
			if p.V == 4 {
				c = sealed(put(b, 2, byte(n>>8), byte(n)))
				told = n
			}
			q, long, e := Look(api.Message{V: p.V, Body: c})
			if told < least {
				if e != api.ErrForm || long != 0 || !sameP(q, api.Packet{}) {
					t.Fatalf("P8.1: a length of %d told: %d, %d", n, long, e)
				}
				continue
			}
			want := p
			want.Data = b[head:min(told, len(b))]
			if e != api.OK || long != told || !sameP(q, want) {
				t.Fatalf("P8.1: a length of %d told: %d bytes, %d, %d", n, len(q.Data), long, e)
			}
		}
	}
}

// TestLookAtWhatIsNotRight: offsets, flags and data that no right packet has are told as they stand.
func TestLookAtWhatIsNotRight(t *testing.T) {
	b, c := lay(t, optioned4()), lay(t, framed6())
	for n := range 65536 {
		checkLook(t, api.Message{V: 4, Body: sealed(put(b, 6, byte(n>>8), byte(n)))})
		checkLook(t, api.Message{V: 6, Body: put(c, 42, byte(n>>8), byte(n))})
	}
	for n := range 256 {
		checkLook(t, api.Message{V: 6, Body: put(c, 6, byte(n))})
		checkLook(t, api.Message{V: 6, Body: put(c, 6, byte(n))[:44]})
		checkLook(t, api.Message{V: 6, Body: put(c, 40, byte(n))})
		checkLook(t, api.Message{V: 6, Body: put(c, 41, byte(n))})
		checkLook(t, api.Message{V: 6, Body: put(c, 0, byte(n))})
		checkLook(t, api.Message{V: 4, Body: sealed(put(b, 0, byte(n)))})
	}
	p, _, e := Look(api.Message{V: 4, Body: sealed(put(b, 6, 0x3f, 0xff))[:24]})
	if p.Off != 65528 || !p.More || len(p.Data) != 0 || e != api.OK {
		t.Errorf("P8.1: the last offset, More and no data: %v, %d", p, e)
	}
}

// TestLookOneBit: of a head of version 4 with one bit changed, but in byte 0, nothing is seen.
func TestLookOneBit(t *testing.T) {
	for _, p := range []api.Packet{abc(), optioned4(), framed6()} {
		b := lay(t, p)
		for at := range b {
			for bit := range 8 {
				c := put(b, at, b[at]^1<<bit)
				e := checkLook(t, api.Message{V: p.V, Body: c})
				if p.V == 4 && at > 0 && at < 20+len(p.Opts) && e != api.ErrSum {
					t.Fatalf("P8.1: the bit %d of byte %d changed: %d", bit, at, e)
				}
			}
		}
	}
}

func TestLookAtRandomBytes(t *testing.T) {
	s := source(8080)
	taken := 0
	for range 60000 {
		v := 4 + 2*s.below(2)
		b := s.bytes(s.below(90))
		if s.chance() {
			b = lay(t, s.packet(v, 12))
			for range s.below(4) {
				b[s.below(len(b))] = byte(s.next() >> 30)
			}
			b = b[:len(b)-s.below(min(len(b), 20))]
		}
		if len(b) > 0 && s.chance() {
			b[0] = byte(v<<4 | s.below(16))
		}
		if len(b) >= 20 && v == 4 && s.chance() {
			b = sealed(b)
		}
		if len(b) >= 40 && v == 6 && s.chance() {
			b[6] = 44
		}
		if checkLook(t, api.Message{V: v, Body: b}) == api.OK {
			taken++
		}
	}
	if taken < 5000 || taken > 50000 {
		t.Errorf("%d of the random bytes are quotes", taken)
	}
}

// TestNothingSharedOfErrors: neither with the packet nor with the message that is looked at.
func TestNothingSharedOfErrors(t *testing.T) {
	for _, p := range []api.Packet{abc(), optioned4(), framed6()} {
		whole := lay(t, p)
		for _, k := range five {
			store, given := among(whole)
			was := bytes.Clone(store)
			m, e := k.of(given)
			other, _ := k.of(given)
			if e != api.OK || !bytes.Equal(store, was) {
				t.Fatalf("P8.1: %s changes what is handed in, %d", k.name, e)
			}
			clear(store)
			if !bytes.Equal(m.Body, whole) {
				t.Fatalf("P8.1: %s keeps what is handed in", k.name)
			}
			fill(m.Body[:cap(m.Body)])
			if !bytes.Equal(store, make([]byte, len(store))) || !bytes.Equal(other.Body, whole) {
				t.Fatalf("P8.1: what %s tells is not new", k.name)
			}
		}
		checkLookShared(t, p, whole)
	}
}

func checkLookShared(t *testing.T, p api.Packet, whole []byte) {
	t.Helper()
	store, given := among(whole)
	was := bytes.Clone(store)
	m := api.Message{V: p.V, Body: given}
	q, _, e := Look(m)
	other, _, _ := Look(m)
	if e != api.OK || !bytes.Equal(store, was) {
		t.Fatalf("P8.1: Look changes what is handed in, %d", e)
	}
	clear(store)
	if !sameP(q, p) {
		t.Fatalf("P8.1: Look keeps what is handed in")
	}
	fill(q.Opts[:cap(q.Opts)])
	if !bytes.Equal(q.Data, p.Data) {
		t.Fatalf("P8.1: Look's Opts share memory with its Data")
	}
	fill(q.Data[:cap(q.Data)])
	for _, x := range q.Opts {
		if x != 0xee {
			t.Fatalf("P8.1: Look's Data share memory with its Opts")
		}
	}
	if !bytes.Equal(store, make([]byte, len(store))) || !sameP(other, p) {
		t.Fatalf("P8.1: what Look tells is not new")
	}
}
