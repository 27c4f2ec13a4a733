package ip6

import (
	"bytes"
	"math"
	"testing"

	"mosaic/api"
)

// source is a plain generator, so that every run sees the same inputs.
type source uint64

func (s *source) next() uint64 {
	*s ^= *s << 13
	*s ^= *s >> 7
	*s ^= *s << 17
	return uint64(*s)
}

func (s *source) below(n int) int { return int((s.next() >> 11) % uint64(n)) }

func (s *source) chance() bool { return s.below(2) == 0 }

// octet is often one at an edge.
func (s *source) octet() int { return []int{0, 255, 1, 128, 44, s.below(256)}[s.below(6)] }

func (s *source) bytes(n int) []byte {
	b := make([]byte, n)
	for i := range b {
		b[i] = byte(s.next() >> 30)
	}
	return b
}

func (s *source) address() api.Addr {
	a := api.Addr{V: 6}
	copy(a.B[:], s.bytes(16))
	return a
}

// packet is a right one, often at an edge.
func (s *source) packet() api.Packet {
	p := api.Packet{V: 6, TOS: s.octet(), Flow: []int{0, 1, 1<<20 - 1, s.below(1 << 20)}[s.below(4)], Src: s.address(), Dst: s.address(), Proto: s.octet(), TTL: s.octet()}
	if p.Proto == 44 {
		p.Proto = 43
	}
	size := []int{0, 1, 3, 7, 8, 9, 16, s.below(90)}[s.below(8)]
	if s.chance() {
		p.Frag = true
		p.ID = []uint32{0, 1, 1<<32 - 1, uint32(s.next() >> 20)}[s.below(4)]
		if s.chance() {
			p.More, size = true, 8+8*s.below(9)
		}
		if size > 0 {
			p.Off = 8 * []int{0, 1, 2, (65535 - size) / 8, s.below((65535-size)/8 + 1)}[s.below(5)]
		}
	}
	p.Data = s.bytes(size)
	return p
}

// wanted is the chapter's word 'right', sentence by sentence.
func wanted(p api.Packet) bool {
	size := len(p.Data)
	for _, n := range []int{p.TOS, p.Proto, p.TTL} {
		if uint64(n) > 255 {
			return false
		}
	}
	switch {
	case p.V != 6, p.Src.V != 6, p.Dst.V != 6, uint64(p.Flow) > 0xfffff, p.Proto == 44, p.DF, len(p.Opts) > 0:
		return false
	case uint64(p.Off) > 65535, p.Off&7 != 0, size > 65535-p.Off, p.Off > 0 && size == 0:
		return false
	case p.More && (size < 8 || size&7 != 0):
		return false
	case !p.Frag:
		return p.ID == 0 && p.Off == 0 && !p.More && size <= 65535
	}
	return size <= 65527
}

// laid is the chapter's table, for a right packet.
func laid(p api.Packet) []byte {
	head := 40
	if p.Frag {
		head = 48
	}
	b := make([]byte, head+len(p.Data))
	first := 6*(1<<28) + p.TOS*(1<<20) + p.Flow
	b[0], b[1], b[2], b[3] = byte(first/(1<<24)), byte(first/(1<<16)%256), byte(first/256%256), byte(first%256)
	b[4], b[5] = byte((len(b)-40)/256), byte((len(b)-40)%256)
	b[6], b[7] = byte(p.Proto), byte(p.TTL)
	copy(b[8:24], p.Src.B[:])
	copy(b[24:40], p.Dst.B[:])
	copy(b[head:], p.Data)
	if !p.Frag {
		return b
	}
	n := p.Off
	if p.More {
		n++
	}
	b[6], b[40] = 44, byte(p.Proto)
	b[42], b[43] = byte(n/256), byte(n%256)
	b[44], b[45], b[46], b[47] = byte(p.ID/(1<<24)), byte(p.ID/(1<<16)%256), byte(p.ID/256%256), byte(p.ID%256)
	return b
}

// judged is Parse's list of errors, in its order.
func judged(b []byte) api.Errno {
	if len(b) < 40 {
		return api.ErrShort
	}
	behind := len(b) - 40
	if b[0]/16 != 6 {
		return api.ErrForm
	}
	if int(b[4])*256+int(b[5]) != behind {
		return api.ErrSize
	}
	if b[6] != 44 {
		return api.OK
	}
	if behind < 8 {
		return api.ErrShort
	}
	more, off, size := b[43]%2 == 1, int(b[42])*256+int(b[43])/8*8, behind-8
	switch {
	case b[41] != 0, b[43]&2 != 0, b[43]&4 != 0, b[40] == 44:
		return api.ErrForm
	case more && (size == 0 || size%8 != 0), off > 0 && size == 0, off+size > 65535:
		return api.ErrForm
	}
	return api.OK
}

func same(p, q api.Packet) bool {
	return p.V == q.V && p.TOS == q.TOS && p.Flow == q.Flow && p.Src == q.Src && p.Dst == q.Dst && p.Proto == q.Proto && p.TTL == q.TTL && p.ID == q.ID &&
		p.DF == q.DF && p.More == q.More && p.Frag == q.Frag && p.Off == q.Off && bytes.Equal(p.Opts, q.Opts) && bytes.Equal(p.Data, q.Data)
}

func known(last byte) api.Addr {
	return api.Addr{V: 6, B: [16]byte{0x20, 1, 0x0d, 0xb8, 15: last}}
}

// plain is the packet of the chapter's first example.
func plain() api.Packet {
	return api.Packet{V: 6, Src: known(1), Dst: known(2), Proto: 17, TTL: 64, Data: []byte{1, 2, 3}}
}

// piece is the fragment of the second one.
func piece() api.Packet {
	return api.Packet{V: 6, Src: known(1), Dst: known(2), Proto: 17, TTL: 64, Frag: true, ID: 7, Off: 8, More: true, Data: []byte("0123456789abcdef")}
}

// atomic is whole, and has a fragment header.
func atomic() api.Packet {
	return changed(piece(), func(p *api.Packet) { p.Off, p.More = 0, false })
}

func changed(p api.Packet, f func(p *api.Packet)) api.Packet {
	f(&p)
	return p
}

// put is b with other bytes from a place on.
func put(b []byte, at int, v ...byte) []byte {
	b = bytes.Clone(b)
	copy(b[at:], v)
	return b
}

// measured is b with its own length told.
func measured(b []byte) []byte { return put(b, 4, byte((len(b)-40)>>8), byte(len(b)-40)) }

// checkPacket holds the calls on a packet against the model.
func checkPacket(t *testing.T, what string, p api.Packet) {
	t.Helper()
	want := wanted(p)
	if got := Right(p); got != want {
		t.Fatalf("P6.1: Right of %s: %v", what, got)
	}
	b, e := Build(p)
	if !want {
		if len(b) != 0 || e != api.ErrArg || Head(p) != 0 {
			t.Fatalf("P6.1: %s: Build %d bytes, %d, Head %d", what, len(b), e, Head(p))
		}
		return
	}
	if !bytes.Equal(b, laid(p)) || e != api.OK {
		t.Fatalf("P6.1: Build of %s: % x, %d, want % x", what, b[:min(len(b), 64)], e, laid(p)[:40])
	}
	if n := Head(p); (n == 48) != p.Frag || (n == 40) == p.Frag || n+len(p.Data) != len(b) || len(b) > api.MaxPacket {
		t.Fatalf("P6.3: %s: Head %d, %d bytes", what, n, len(b))
	}
	if q, e := Parse(b); !same(p, q) || e != api.OK {
		t.Fatalf("P6.2: Parse of Build of %s: %d", what, e)
	}
}

// checkBytes holds Parse against the model.
func checkBytes(t *testing.T, what string, b []byte) {
	t.Helper()
	want := judged(b)
	p, e := Parse(b)
	if e != want {
		t.Fatalf("P6.1: Parse of %s (%d bytes, % x): %d, want %d", what, len(b), b[:min(len(b), 64)], e, want)
	}
	if e != api.OK {
		if !same(p, api.Packet{}) {
			t.Fatalf("P6.1: Parse of %s tells a packet beside error %d", what, e)
		}
		return
	}
	if !Right(p) || p.Frag != (b[6] == 44) {
		t.Fatalf("P6.2: Parse of %s: not right, or Frag %v", what, p.Frag)
	}
	if again, e := Build(p); !bytes.Equal(again, b) || e != api.OK {
		t.Fatalf("P6.2: Build of Parse of %s: % x, %d, want % x", what, again, e, b)
	}
}

func TestExamplesLaid(t *testing.T) {
	ends := " \x01\x0d\xb8\x00\x00\x00\x00\x00\x00\x00\x00\x00\x00\x00\x01 \x01\x0d\xb8\x00\x00\x00\x00\x00\x00\x00\x00\x00\x00\x00\x02"
	for _, c := range []struct {
		p    api.Packet
		want string
		head int
	}{
		{plain(), "\x60\x00\x00\x00\x00\x03\x11\x40" + ends + "\x01\x02\x03", 40},
		{changed(plain(), func(p *api.Packet) { p.TOS, p.Flow = 0xab, 0x12345 }), "\x6a\xb1\x23\x45\x00\x03\x11\x40" + ends + "\x01\x02\x03", 40},
		{piece(), "\x60\x00\x00\x00\x00\x18\x2c\x40" + ends + "\x11\x00\x00\x09\x00\x00\x00\x07" + "0123456789abcdef", 48},
		{atomic(), "\x60\x00\x00\x00\x00\x18\x2c\x40" + ends + "\x11\x00\x00\x00\x00\x00\x00\x07" + "0123456789abcdef", 48},
	} {
		if b, e := Build(c.p); string(b) != c.want || e != api.OK || Head(c.p) != c.head {
			t.Errorf("P6.1: Build of %v: % x, %d, want % x; Head %d", c.p, b, e, c.want, Head(c.p))
		}
		if q, e := Parse([]byte(c.want)); !same(q, c.p) || e != api.OK {
			t.Errorf("P6.2: Parse of % x: %v, %d", c.want, q, e)
		}
	}
}

func TestExamplesJudged(t *testing.T) {
	long := func(n int) []byte { return make([]byte, n) }
	for i, c := range []struct {
		from api.Packet
		turn func(p *api.Packet)
		is   bool
	}{
		{plain(), func(p *api.Packet) { p.Proto = 44 }, false},
		{piece(), func(p *api.Packet) { p.Proto = 44 }, false},
		{plain(), func(p *api.Packet) { p.More, p.Data = true, long(8) }, false},
		{plain(), func(p *api.Packet) { p.Off = 8 }, false},
		{plain(), func(p *api.Packet) { p.ID = 1 }, false},
		{piece(), func(p *api.Packet) { p.Off = 4 }, false},
		{atomic(), func(p *api.Packet) { p.Off, p.Data = 65528, long(8) }, false},
		{atomic(), func(p *api.Packet) { p.Off, p.Data = 65528, long(7) }, true},
		{atomic(), func(p *api.Packet) { p.Off, p.Data = 8, nil }, false},
		{piece(), func(p *api.Packet) { p.Data = long(12) }, false},
		{piece(), func(p *api.Packet) { p.Data = long(8) }, true},
		{piece(), func(p *api.Packet) { p.Off, p.Data = 0, nil }, false},
		{plain(), func(p *api.Packet) { p.Flow = 1 << 20 }, false},
		{plain(), func(p *api.Packet) { p.Flow = 1<<20 - 1 }, true},
		{plain(), func(p *api.Packet) { p.Opts = long(1) }, false},
		{plain(), func(p *api.Packet) { p.DF = true }, false},
		{piece(), func(p *api.Packet) { p.DF = true }, false},
		{plain(), func(p *api.Packet) { p.Data = long(65535) }, true},
		{plain(), func(p *api.Packet) { p.Data = long(65536) }, false},
		{atomic(), func(p *api.Packet) { p.Data = long(65527) }, true},
		{atomic(), func(p *api.Packet) { p.Data = long(65528) }, false},
		{piece(), func(p *api.Packet) { p.Off, p.Data = 0, long(65520) }, true},
		{piece(), func(p *api.Packet) { p.Off, p.Data = 0, long(65528) }, false},
		{atomic(), func(p *api.Packet) { p.Data = nil }, true},
	} {
		p := changed(c.from, c.turn)
		checkPacket(t, "an example", p)
		if Right(p) != c.is {
			t.Errorf("P6.1: row %d: Right %v", i, !c.is)
		}
	}
}

func TestExamplesParsed(t *testing.T) {
	one, two := laid(plain()), laid(piece())
	for i, c := range []struct {
		b    []byte
		want api.Errno
	}{
		{nil, api.ErrShort}, {one[:39], api.ErrShort}, {one[:40], api.ErrSize}, {measured(one[:40]), api.OK},
		{put(one, 0, 0x40), api.ErrForm}, {put(one, 5, 4), api.ErrSize}, {put(one, 5, 2), api.ErrSize}, {put(one, 4, 1), api.ErrSize},
		{put(one, 6, 44), api.ErrShort}, {measured(two[:40]), api.ErrShort}, {measured(two[:47]), api.ErrShort},
		{put(measured(two[:48]), 43, 0), api.OK}, {measured(two[:48]), api.ErrForm}, {put(measured(two[:48]), 43, 1), api.ErrForm}, {put(measured(two[:48]), 43, 8), api.ErrForm},
		{put(two, 41, 1), api.ErrForm}, {put(two, 41, 128), api.ErrForm}, {put(two, 43, 0x0b), api.ErrForm}, {put(two, 43, 0x0d), api.ErrForm}, {put(two, 43, 0x0f), api.ErrForm},
		{put(two, 40, 44), api.ErrForm}, {put(two, 42, 0xff, 0xf9), api.ErrForm}, {put(two, 42, 0xff, 0xf8), api.ErrForm}, {put(two, 42, 0xff, 0xe9), api.OK}, {put(two, 42, 0xff, 0xf1), api.ErrForm},
		{put(two, 43, 8), api.OK}, {put(two, 43, 1), api.OK}, {put(two, 43, 0), api.OK},
	} {
		if q, e := Parse(c.b); e != c.want || e != api.OK && !same(q, api.Packet{}) {
			t.Errorf("P6.1: row %d: Parse of % x: %v, %d, want %d", i, c.b, q, e, c.want)
		}
		checkBytes(t, "an example", c.b)
	}
}

// numbers are edges of every field, and beyond them.
var numbers = []int{
	0, 1, 2, 3, 4, 5, 6, 7, 8, 9, 12, 15, 16, 24, 43, 44, 45, 64, 127, 128, 254, 255, 256, 257, 300, 4096, 8192, 32768, 65512, 65520, 65524, 65527, 65528, 65529, 65535, 65536, 65544, 1<<20 - 1, 1 << 20, 1<<20 + 1, 1 << 28, 1<<31 - 1, 1 << 31, 1<<32 - 1,
	1 << 32, 1<<32 + 8, 1<<62 - 1, 1 << 62, math.MaxInt - 7, math.MaxInt, -1, -2, -4, -8, -16, -44, -212, -255, -256, -65536, math.MinInt, math.MinInt + 8, math.MinInt + 17,
}

func TestFieldsAtTheirEdges(t *testing.T) {
	fields := map[string]func(p *api.Packet, n int){
		"V":     func(p *api.Packet, n int) { p.V = n },
		"TOS":   func(p *api.Packet, n int) { p.TOS = n },
		"Flow":  func(p *api.Packet, n int) { p.Flow = n },
		"Src V": func(p *api.Packet, n int) { p.Src.V = n },
		"Dst V": func(p *api.Packet, n int) { p.Dst.V = n },
		"Proto": func(p *api.Packet, n int) { p.Proto = n },
		"TTL":   func(p *api.Packet, n int) { p.TTL = n },
		"ID":    func(p *api.Packet, n int) { p.ID = uint32(n) },
		"Off":   func(p *api.Packet, n int) { p.Off = n },
	}
	some := []api.Packet{
		plain(), piece(), atomic(),
		changed(plain(), func(p *api.Packet) { p.Data = nil }),
		changed(atomic(), func(p *api.Packet) { p.Data = nil }),
		changed(atomic(), func(p *api.Packet) { p.Data = p.Data[:7] }),
	}
	for name, set := range fields {
		for _, n := range numbers {
			for _, p := range some {
				checkPacket(t, name, changed(p, func(p *api.Packet) { set(p, n) }))
			}
		}
	}
	checkPacket(t, "no packet", api.Packet{})
	checkPacket(t, "only V", api.Packet{V: 6})
	four := api.Addr{V: 4, B: [16]byte{10, 0, 0, 1}}
	checkPacket(t, "a packet of version 4", changed(plain(), func(p *api.Packet) { p.V, p.Src, p.Dst = 4, four, four }))
	checkPacket(t, "a source of version 4", changed(plain(), func(p *api.Packet) { p.Src = four }))
	checkPacket(t, "a destination of version 4", changed(plain(), func(p *api.Packet) { p.Dst = four }))
}

// TestOctets: every number of the three fields of one byte, with and without a fragment header.
func TestOctets(t *testing.T) {
	for n := -1; n <= 256; n++ {
		for _, p := range []api.Packet{plain(), piece(), atomic()} {
			checkPacket(t, "TOS", changed(p, func(p *api.Packet) { p.TOS = n }))
			checkPacket(t, "TTL", changed(p, func(p *api.Packet) { p.TTL = n }))
			checkPacket(t, "Proto", changed(p, func(p *api.Packet) { p.Proto = n }))
		}
	}
}

// TestAddresses: every sixteen bytes are an address, whatever kind it is of.
func TestAddresses(t *testing.T) {
	for i := range 16 {
		checkPacket(t, "a byte of Src", changed(plain(), func(p *api.Packet) { p.Src.B[i] ^= 0xff }))
		checkPacket(t, "a byte of Dst", changed(plain(), func(p *api.Packet) { p.Dst.B[i] ^= 0xff }))
	}
	all := [16]byte(bytes.Repeat([]byte{255}, 16))
	for _, b := range [][16]byte{{}, {15: 1}, {255, 2, 15: 1}, all} {
		p := changed(plain(), func(p *api.Packet) { p.Src.B, p.Dst.B = b, b })
		checkPacket(t, "addresses of every kind", p)
		if !Right(p) {
			t.Errorf("P6.1: % x is no address", b)
		}
	}
}

func TestOptionsAreNone(t *testing.T) {
	for _, p := range []api.Packet{plain(), piece(), atomic()} {
		for n := range 45 {
			q := changed(p, func(p *api.Packet) { p.Opts = make([]byte, n) })
			checkPacket(t, "options", q)
			if Right(q) != (n == 0) {
				t.Fatalf("P6.1: options of %d bytes: Right %v", n, Right(q))
			}
		}
	}
}

// TestPlacesOfData: every Off of the list with every length, More, Frag and two IDs.
func TestPlacesOfData(t *testing.T) {
	sizes := []int{0, 1, 3, 4, 7, 8, 9, 12, 15, 16, 17, 24, 65512, 65520, 65527, 65528, 65535, 65536, 65544}
	for _, off := range numbers {
		for _, size := range sizes {
			data := make([]byte, size)
			for bits := range 8 {
				p := plain()
				p.Off, p.Data, p.More, p.Frag, p.ID = off, data, bits&1 != 0, bits&2 != 0, uint32(bits&4)
				checkPacket(t, "data at a place", p)
			}
		}
	}
}

// TestReach: for every offset the greatest length, and one beyond.
func TestReach(t *testing.T) {
	data := make([]byte, 65536)
	for off := 0; off <= 65536; off += 8 {
		for _, size := range []int{65535 - off, 65536 - off} {
			if size < 0 {
				continue
			}
			p := changed(atomic(), func(p *api.Packet) { p.Off, p.Data = off, data[:size] })
			if want := size == 65535-off && size > 0 && size <= 65527; Right(p) != want || want != wanted(p) {
				t.Fatalf("P6.1: Off %d with %d bytes: Right %v", off, size, Right(p))
			}
		}
	}
}

func TestLengths(t *testing.T) {
	for _, c := range []struct {
		frag bool
		most int
	}{{false, 65535}, {true, 65527}} {
		for size := c.most - 2; size <= c.most+10; size++ {
			p := changed(plain(), func(p *api.Packet) { p.Frag, p.Data = c.frag, make([]byte, size) })
			checkPacket(t, "the longest", p)
			b, e := Build(p)
			if (e == api.OK) != (size <= c.most) {
				t.Fatalf("P6.1: %d bytes of data: %d", size, e)
			}
			if size == c.most && len(b) != 65575 {
				t.Fatalf("P6.3: the longest packet has %d bytes", len(b))
			}
		}
	}
}

func TestRandomPackets(t *testing.T) {
	s := source(6)
	for range 20000 {
		p := s.packet()
		if !Right(p) {
			t.Fatalf("P6.1: not right: %v", p)
		}
		checkPacket(t, "a random packet", p)
		some := func() int { return numbers[s.below(len(numbers))] }
		switch s.below(9) {
		case 0:
			p.Off = some()
		case 1:
			p.More = !p.More
		case 2:
			p.Opts = s.bytes(s.below(3))
		case 3:
			p.Data = s.bytes(s.below(20))
		case 4:
			p.Frag = !p.Frag
		case 5:
			p.TTL, p.TOS = some(), some()
		case 6:
			p.Proto, p.ID = some(), uint32(some())
		case 7:
			p.V, p.Flow, p.DF = 6-2*s.below(2), some(), s.chance()
		case 8:
			p.Src.V, p.Dst.V = 6-2*s.below(2), 6-2*s.below(2)
		}
		checkPacket(t, "a packet nearly right", p)
	}
}

func TestPlacesOfFields(t *testing.T) {
	p := api.Packet{V: 6, TOS: 0x12, Flow: 0x3abcd, Src: known(3), Dst: known(4), Proto: 0x34, TTL: 0x56, ID: 0x789abcde, Frag: true, More: true, Off: 0x1ab8, Data: []byte("01234567")}
	p.Src.B = [16]byte([]byte("ABCDEFGHIJKLMNOP"))
	p.Dst.B = [16]byte([]byte("abcdefghijklmnop"))
	want := "\x61\x23\xab\xcd\x00\x10\x2c\x56ABCDEFGHIJKLMNOPabcdefghijklmnop\x34\x00\x1a\xb9\x78\x9a\xbc\xde01234567"
	if b, e := Build(p); string(b) != want || e != api.OK {
		t.Errorf("P6.1: % x, %d, want % x", b, e, want)
	}
	if q, e := Parse([]byte(want)); !same(p, q) || e != api.OK {
		t.Errorf("P6.2: %v, %d", q, e)
	}
}

func TestFirstByte(t *testing.T) {
	for first := range 256 {
		for _, whole := range [][]byte{laid(plain()), laid(piece())} {
			b := put(whole, 0, byte(first))
			checkBytes(t, "another first byte", b)
			if _, e := Parse(b); (e == api.OK) != (first/16 == 6) || e != api.OK && e != api.ErrForm {
				t.Fatalf("P6.1: the first byte %02x: %d", first, e)
			}
		}
	}
}

func TestLengthTold(t *testing.T) {
	b := laid(plain())
	for n := range 65536 {
		if _, e := Parse(put(b, 4, byte(n>>8), byte(n))); (e == api.OK) != (n == 3) || e != api.OK && e != api.ErrSize {
			t.Fatalf("P6.1: a length of %d told of 3 bytes: %d", n, e)
		}
	}
	// The two bytes cannot tell more than 65535, not even modulo 65536.
	for _, n := range []int{65535, 65536, 65536 + 3, 131072} {
		c := measured(append(bytes.Clone(b[:40]), make([]byte, n)...))
		if _, e := Parse(c); (e == api.OK) != (n == 65535) || e != api.OK && e != api.ErrSize {
			t.Fatalf("P6.1: %d bytes behind the head: %d", n, e)
		}
	}
}

// TestNextHeader: every number in byte 6, and every one in byte 40, with few and with many bytes behind the head.
func TestNextHeader(t *testing.T) {
	for next := range 256 {
		for behind := range 26 {
			b := measured(append(laid(plain())[:40], make([]byte, behind)...))
			checkBytes(t, "another next header", put(b, 6, byte(next)))
			if behind > 0 {
				checkBytes(t, "another header behind it", put(put(b, 6, 44), 40, byte(next)))
			}
		}
	}
	if _, e := Parse(put(laid(changed(plain(), func(p *api.Packet) { p.Data = make([]byte, 7) })), 6, 44)); e != api.ErrShort {
		t.Errorf("P6.1: 7 bytes of a fragment header: %d", e)
	}
	if p, e := Parse(put(laid(changed(plain(), func(p *api.Packet) { p.Data = make([]byte, 8) })), 6, 44)); e != api.OK || !p.Frag || p.Proto != 0 || len(p.Data) != 0 {
		t.Errorf("P6.1: 8 bytes of a fragment header: %v, %d", p, e)
	}
}

// TestFragmentWords: every number in the offset's two bytes, and every one in byte 41, with several lengths.
func TestFragmentWords(t *testing.T) {
	s := source(66)
	for _, size := range []int{0, 1, 7, 8, 9, 16, 23} {
		b := laid(changed(atomic(), func(p *api.Packet) { p.Data = s.bytes(size) }))
		for n := range 65536 {
			checkBytes(t, "an offset", put(b, 42, byte(n>>8), byte(n)))
		}
		for n := range 256 {
			checkBytes(t, "a reserved byte", put(b, 41, byte(n)))
		}
	}
}

func TestLongFragmentsInBytes(t *testing.T) {
	for _, size := range []int{65519, 65520, 65521, 65526, 65527} {
		b := laid(changed(atomic(), func(p *api.Packet) { p.Data = make([]byte, size) }))
		for place := range 32 {
			checkBytes(t, "a long fragment", put(b, 43, byte(place)))
		}
	}
}

// TestCutOffOrLonger: P6.4.
func TestCutOffOrLonger(t *testing.T) {
	s := source(666)
	some := []api.Packet{plain(), piece(), atomic(), changed(plain(), func(p *api.Packet) { p.Data = nil }), changed(atomic(), func(p *api.Packet) { p.Data = nil })}
	for range 300 {
		some = append(some, s.packet())
	}
	for _, p := range some {
		whole, _ := Build(p)
		for n := range len(whole) {
			want := api.ErrSize
			if n < 40 {
				want = api.ErrShort
			}
			if q, e := Parse(whole[:n]); e != want || !same(q, api.Packet{}) {
				t.Fatalf("P6.4: the first %d of % x: %d, want %d", n, whole, e, want)
			}
		}
		for _, n := range []int{1, 2, 7, 8, 40, 256, 65536, 131072} {
			if q, e := Parse(append(bytes.Clone(whole), make([]byte, n)...)); e != api.ErrSize || !same(q, api.Packet{}) {
				t.Fatalf("P6.4: %d bytes behind % x: %d", n, whole, e)
			}
		}
	}
}

// TestOrder lays two faults into one packet's bytes: the error that is named first is told.
func TestOrder(t *testing.T) {
	whole := laid(piece())
	faults := []struct {
		e    api.Errno
		make func(b []byte) []byte
	}{
		{api.ErrShort, func(b []byte) []byte { return b[:39] }},
		{api.ErrForm, func(b []byte) []byte { return put(b, 0, 0x40) }},
		{api.ErrSize, func(b []byte) []byte { return put(b, 5, b[5]+1) }},
		{api.ErrShort, func(b []byte) []byte { return measured(b[:47]) }},
		{api.ErrForm, func(b []byte) []byte { return put(b, 41, 1) }},
		{api.ErrForm, func(b []byte) []byte { return put(b, 43, b[43]|4) }},
		{api.ErrForm, func(b []byte) []byte { return put(b, 40, 44) }},
		{api.ErrForm, func(b []byte) []byte { return put(b, 42, 0xff, 0xf9) }},
	}
	for i, one := range faults {
		if _, e := Parse(one.make(whole)); e != one.e {
			t.Errorf("P6.1: fault %d alone: %d, want %d", i, e, one.e)
		}
		for j, two := range faults[i+1:] {
			// The later fault first, so that the earlier one's change stands.
			if _, e := Parse(one.make(two.make(whole))); e != one.e {
				t.Errorf("P6.1: faults %d and %d: %d, want %d", i, i+1+j, e, one.e)
			}
		}
	}
}

func TestRandomBytes(t *testing.T) {
	s := source(6006)
	for range 40000 {
		b := laid(s.packet())
		for range s.below(4) {
			switch s.below(6) {
			case 0:
				b = b[:s.below(len(b)+1)]
			case 1:
				b = append(b, s.bytes(s.below(9))...)
			default:
				if len(b) > 0 {
					at := []int{0, 4, 5, 6, 40, 41, 42, 43, s.below(48)}[s.below(9)]
					b[min(at, len(b)-1)] = byte(s.octet())
				}
			}
			if len(b) >= 40 && s.chance() {
				b = measured(b)
			}
		}
		checkBytes(t, "spoilt bytes", b)
	}
	for n := range 70 {
		for _, v := range []byte{0, 44, 0x60, 255} {
			checkBytes(t, "one byte again and again", bytes.Repeat([]byte{v}, n))
		}
	}
}

func TestNilAndEmpty(t *testing.T) {
	for _, frag := range []bool{false, true} {
		p := changed(plain(), func(p *api.Packet) { p.Frag, p.Opts, p.Data = frag, nil, nil })
		q := changed(plain(), func(p *api.Packet) { p.Frag, p.Opts, p.Data = frag, []byte{}, []byte{} })
		a, e := Build(p)
		b, f := Build(q)
		if !bytes.Equal(a, b) || e != api.OK || f != api.OK || len(a) != Head(p) || Head(p) != Head(q) {
			t.Errorf("P6.1: nil and empty lists: % x, %d, % x, %d", a, e, b, f)
		}
	}
}

// roomy is b with spare room behind it, and all of that room.
func roomy(b []byte) ([]byte, []byte) {
	all := append(bytes.Clone(b), bytes.Repeat([]byte{0xee}, 80)...)
	return all[:len(b)], all
}

func scribble(b []byte) {
	b = b[:cap(b)]
	for i := range b {
		b[i] ^= 0x55
	}
}

// TestNothingIsShared: P6.5.
func TestNothingIsShared(t *testing.T) {
	s := source(60006)
	for range 500 {
		p := s.packet()
		want := laid(p)
		kept := changed(p, func(p *api.Packet) { p.Data = bytes.Clone(p.Data) })
		var allOpts, allData []byte
		p.Opts, allOpts = roomy(nil)
		p.Data, allData = roomy(p.Data)
		wasOpts, wasData := bytes.Clone(allOpts), bytes.Clone(allData)
		b, _ := Build(p)
		c, _ := Build(p)
		Right(p)
		Head(p)
		if !bytes.Equal(allOpts, wasOpts) || !bytes.Equal(allData, wasData) {
			t.Fatal("P6.5: what was handed to Build is changed")
		}
		scribble(b)
		if !bytes.Equal(c, want) || !bytes.Equal(allOpts, wasOpts) || !bytes.Equal(allData, wasData) {
			t.Fatal("P6.5: what Build told is shared")
		}
		scribble(allOpts)
		scribble(allData)
		if !bytes.Equal(c, want) {
			t.Fatal("P6.5: what was handed to Build is kept")
		}
		checkParsedAlone(t, want, kept)
	}
}

func checkParsedAlone(t *testing.T, b []byte, want api.Packet) {
	t.Helper()
	b, all := roomy(b)
	was := bytes.Clone(all)
	p, _ := Parse(b)
	q, _ := Parse(b)
	if !same(p, want) || !same(q, want) {
		t.Fatal("P6.2: not the packet that was laid")
	}
	scribble(p.Opts)
	if !bytes.Equal(p.Data, want.Data) {
		t.Fatal("P6.5: the options and the data that Parse told share memory")
	}
	scribble(p.Data)
	if !bytes.Equal(all, was) {
		t.Fatal("P6.5: what was handed to Parse is changed")
	}
	scribble(all)
	if !same(q, want) {
		t.Fatal("P6.5: what was handed to Parse is kept, or what it told is shared")
	}
}
