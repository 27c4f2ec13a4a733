package ip4

import (
	"bytes"
	"math"
	"slices"
	"testing"

	"mosaic/api"
	"mosaic/opts"
)

// source is a plain generator, so that every run sees the same inputs.
type source uint64

func (s *source) next() uint64 {
	*s ^= *s << 13
	*s ^= *s >> 7
	*s ^= *s << 17
	return uint64(*s)
}

func (s *source) below(n int) int { return int((s.next() >> 11) % uint64(n)) }

func (s *source) chance() bool { return s.below(2) == 0 }

// octet is often one at an edge.
func (s *source) octet() int { return []int{0, 255, 1, 128, s.below(256)}[s.below(5)] }

func (s *source) bytes(n int) []byte {
	b := make([]byte, n)
	for i := range b {
		b[i] = byte(s.next() >> 30)
	}
	return b
}

func (s *source) address() api.Addr {
	a := api.Addr{V: 4}
	copy(a.B[:4], s.bytes(4))
	return a
}

func (s *source) options() []byte {
	n := []int{0, 4, 8, 36, 40}[s.below(5)]
	switch s.below(3) {
	case 0:
		return bytes.Repeat([]byte{1}, n)
	case 1:
		return make([]byte, n)
	}
	if n == 0 {
		return nil
	}
	b := s.bytes(n)
	b[0], b[1] = byte(2+s.below(254)), byte(n)
	return b
}

// packet is a right one, often at an edge.
func (s *source) packet() api.Packet {
	p := api.Packet{V: 4, TOS: s.octet(), Src: s.address(), Dst: s.address(), Proto: s.octet(), TTL: s.octet(), ID: uint32(s.below(65536)), DF: s.chance(), Opts: s.options()}
	size := []int{0, 1, 3, 7, 8, 9, 16, s.below(90)}[s.below(8)]
	if s.chance() {
		p.More, size = true, 8+8*s.below(9)
	}
	if size > 0 {
		p.Off = 8 * []int{0, 1, 2, (65535 - size) / 8, s.below((65535-size)/8 + 1)}[s.below(5)]
	}
	p.Data = s.bytes(size)
	return p
}

// wanted is the chapter's word 'right'.
func wanted(p api.Packet) bool {
	for _, n := range []int{p.TOS, p.Proto, p.TTL} {
		if uint64(n) > 255 {
			return false
		}
	}
	for _, a := range []api.Addr{p.Src, p.Dst} {
		if a.V != 4 || !bytes.Equal(a.B[4:], make([]byte, 12)) {
			return false
		}
	}
	size := len(p.Data)
	switch {
	case p.V != 4, p.Flow != 0, p.Frag, p.ID >= 1<<16, !opts.Valid(p.Opts):
		return false
	case uint64(p.Off) > 65528, p.Off&7 != 0, size > 65535-p.Off, size > 65515-len(p.Opts):
		return false
	case p.More:
		return size > 0 && size&7 == 0
	}
	return p.Off == 0 || size > 0
}

// seal puts the sum of the head that the first byte tells, as far as there are bytes.
func seal(b []byte) []byte {
	b = bytes.Clone(b)
	b[10], b[11] = 0, 0
	n := 65535 - ones(b[:min(int(b[0]&15)*4, len(b)&^1)])
	b[10], b[11] = byte(n/256), byte(n%256)
	return b
}

// ones adds words one by one, each carry at once.
func ones(b []byte) int {
	n := 0
	for i := 0; i < len(b); i += 2 {
		n += int(b[i])*256 + int(b[i+1])
		if n > 65535 {
			n -= 65535
		}
	}
	return n
}

// laid is the chapter's table, for a right packet.
func laid(p api.Packet) []byte {
	head := 20 + len(p.Opts)
	b := make([]byte, head+len(p.Data))
	b[0] = byte(64 + head/4)
	b[1] = byte(p.TOS)
	b[2], b[3] = byte(len(b)/256), byte(len(b)%256)
	b[4], b[5] = byte(p.ID/256), byte(p.ID%256)
	n := p.Off / 8
	if p.DF {
		n += 16384
	}
	if p.More {
		n += 8192
	}
	b[6], b[7] = byte(n/256), byte(n%256)
	b[8], b[9] = byte(p.TTL), byte(p.Proto)
	copy(b[12:16], p.Src.B[:])
	copy(b[16:20], p.Dst.B[:])
	copy(b[20:head], p.Opts)
	copy(b[head:], p.Data)
	return seal(b)
}

// judged is Parse's list of errors, in its order.
func judged(b []byte) api.Errno {
	if len(b) < 20 {
		return api.ErrShort
	}
	head := int(b[0]%16) * 4
	if b[0]/16 != 4 || head < 20 {
		return api.ErrForm
	}
	if head > len(b) {
		return api.ErrShort
	}
	if int(b[2])*256+int(b[3]) != len(b) {
		return api.ErrSize
	}
	if !bytes.Equal(seal(b), b) {
		return api.ErrSum
	}
	more, off, size := b[6]&32 != 0, int(b[6]%32)*2048+int(b[7])*8, len(b)-head
	switch {
	case b[6] >= 128, more && size == 0, more && size%8 != 0, off > 0 && size == 0, off+size > 65535:
		return api.ErrForm
	case !opts.Valid(b[20:head]):
		return api.ErrOpt
	}
	return api.OK
}

func same(p, q api.Packet) bool {
	return p.V == q.V && p.TOS == q.TOS && p.Flow == q.Flow && p.Src == q.Src && p.Dst == q.Dst && p.Proto == q.Proto && p.TTL == q.TTL && p.ID == q.ID &&
		p.DF == q.DF && p.More == q.More && p.Frag == q.Frag && p.Off == q.Off && bytes.Equal(p.Opts, q.Opts) && bytes.Equal(p.Data, q.Data)
}

// first is the packet of the chapter's examples.
func first() api.Packet {
	return api.Packet{V: 4, Src: api.Addr{V: 4, B: [16]byte{10, 0, 0, 1}}, Dst: api.Addr{V: 4, B: [16]byte{10, 0, 0, 2}}, Proto: 17, TTL: 64, ID: 7, Data: []byte("abc")}
}

func changed(p api.Packet, f func(p *api.Packet)) api.Packet {
	f(&p)
	return p
}

// put is b with other bytes from a place on.
func put(b []byte, at int, v ...byte) []byte {
	b = bytes.Clone(b)
	copy(b[at:], v)
	return b
}

// checkPacket holds the three calls on a packet against the model.
func checkPacket(t *testing.T, what string, p api.Packet) {
	t.Helper()
	want := wanted(p)
	if got := Right(p); got != want {
		t.Fatalf("P5.1: Right of %s: %v", what, got)
	}
	b, e := Build(p)
	if !want {
		if len(b) != 0 || e != api.ErrArg || Head(p) != 0 {
			t.Fatalf("P5.1: %s: Build %d bytes, %d, Head %d", what, len(b), e, Head(p))
		}
		return
	}
	if !bytes.Equal(b, laid(p)) || e != api.OK {
		t.Fatalf("P5.1, P5.3: Build of %s: % x, %d, want % x", what, b[:min(len(b), 64)], e, laid(p)[:20])
	}
	if n := Head(p); n != 20+len(p.Opts) || n+len(p.Data) != len(b) {
		t.Fatalf("P5.3: %s: Head %d, %d bytes", what, n, len(b))
	}
	if q, e := Parse(b); !same(p, q) || e != api.OK {
		t.Fatalf("P5.2: Parse of Build of %s: %d", what, e)
	}
}

// checkBytes holds Parse against the model.
func checkBytes(t *testing.T, what string, b []byte) {
	t.Helper()
	want := judged(b)
	p, e := Parse(b)
	if e != want {
		t.Fatalf("P5.1: Parse of %s (%d bytes, % x): %d, want %d", what, len(b), b[:min(len(b), 64)], e, want)
	}
	if e != api.OK {
		if !same(p, api.Packet{}) {
			t.Fatalf("P5.1: Parse of %s tells a packet beside error %d", what, e)
		}
		return
	}
	if again, e := Build(p); !bytes.Equal(again, b) || e != api.OK {
		t.Fatalf("P5.2: Build of Parse of %s: % x, %d, want % x", what, again, e, b)
	}
}

func TestExamples(t *testing.T) {
	p := first()
	one := []byte("\x45\x00\x00\x17\x00\x07\x00\x00\x40\x11\x66\xcd\x0a\x00\x00\x01\x0a\x00\x00\x02abc")
	for _, c := range []struct {
		p    api.Packet
		want []byte
	}{
		{p, one},
		{changed(p, func(p *api.Packet) { p.DF, p.TOS = true, 3 }), put(put(put(one, 1, 3), 6, 0x40), 10, 0x26, 0xca)},
		{changed(p, func(p *api.Packet) { p.Off = 16 }), put(put(one, 7, 2), 10, 0x66, 0xcb)},
		{changed(p, func(p *api.Packet) { p.Opts = []byte{0x94, 4, 0, 0} }), []byte("\x46\x00\x00\x1b\x00\x07\x00\x00\x40\x11\xd1\xc4\x0a\x00\x00\x01\x0a\x00\x00\x02\x94\x04\x00\x00abc")},
	} {
		if b, e := Build(c.p); !bytes.Equal(b, c.want) || e != api.OK {
			t.Errorf("P5.1: Build of %v: % x, %d, want % x", c.p, b, e, c.want)
		}
		if q, e := Parse(c.want); !same(q, c.p) || e != api.OK {
			t.Errorf("P5.2: Parse of % x: %v, %d", c.want, q, e)
		}
		if Head(c.p) != len(c.want)-3 {
			t.Errorf("P5.3: Head of %v: %d", c.p, Head(c.p))
		}
	}
	for _, c := range []struct {
		b    []byte
		want api.Errno
	}{
		{one[:22], api.ErrSize}, {one[:19], api.ErrShort}, {put(one, 0, 0x44), api.ErrForm}, {put(one, 0, 0x46), api.ErrShort}, {put(one, 10, 0x67), api.ErrSum},
	} {
		if q, e := Parse(c.b); e != c.want || !same(q, api.Packet{}) {
			t.Errorf("P5.1: Parse of % x: %v, %d, want %d", c.b, q, e, c.want)
		}
	}
	if q, e := Parse(put(one, 22, 'x')); e != api.OK || string(q.Data) != "abx" {
		t.Errorf("P5.4: another byte of data: %v, %d", q, e)
	}
}

// numbers are edges of every field, and beyond them.
var numbers = []int{
	0, 1, 2, 3, 5, 7, 8, 9, 12, 15, 16, 24, 64, 127, 128, 254, 255, 256, 257, 4096, 8191, 8192, 16384, 32767, 32768, 65512, 65520, 65527, 65528, 65529, 65535, 65536, 65544, 1 << 20, 1<<31 - 1, 1 << 31, 1<<32 - 1,
	1 << 32, 1<<32 + 8, 1<<62 - 1, 1 << 62, math.MaxInt - 7, math.MaxInt, -1, -4, -8, -16, -255, -256, -65536, math.MinInt, math.MinInt + 8,
}

func TestFieldsAtTheirEdges(t *testing.T) {
	fields := map[string]func(p *api.Packet, n int){
		"V":     func(p *api.Packet, n int) { p.V = n },
		"TOS":   func(p *api.Packet, n int) { p.TOS = n },
		"Flow":  func(p *api.Packet, n int) { p.Flow = n },
		"Src V": func(p *api.Packet, n int) { p.Src.V = n },
		"Dst V": func(p *api.Packet, n int) { p.Dst.V = n },
		"Proto": func(p *api.Packet, n int) { p.Proto = n },
		"TTL":   func(p *api.Packet, n int) { p.TTL = n },
		"ID":    func(p *api.Packet, n int) { p.ID = uint32(n) },
		"Off":   func(p *api.Packet, n int) { p.Off = n },
	}
	some := []api.Packet{
		first(),
		changed(first(), func(p *api.Packet) { p.Data = nil }),
		changed(first(), func(p *api.Packet) { p.Data, p.More, p.DF = make([]byte, 8), true, true }),
	}
	for name, set := range fields {
		for _, n := range append([]int{4, 6}, numbers...) {
			for _, p := range some {
				checkPacket(t, name, changed(p, func(p *api.Packet) { set(p, n) }))
			}
		}
	}
	for i := range 16 {
		checkPacket(t, "a byte of Src", changed(first(), func(p *api.Packet) { p.Src.B[i] = 255 }))
		checkPacket(t, "a byte of Dst", changed(first(), func(p *api.Packet) { p.Dst.B[i] = 255 }))
	}
	checkPacket(t, "Frag", changed(first(), func(p *api.Packet) { p.Frag = true }))
	checkPacket(t, "no packet", api.Packet{})
	for _, v := range []int{4, 6} {
		checkPacket(t, "only V", api.Packet{V: v})
	}
	six := api.Addr{V: 6, B: [16]byte{10, 0, 0, 1}}
	checkPacket(t, "a packet of version 6", changed(first(), func(p *api.Packet) { p.V, p.Src, p.Dst = 6, six, six }))
}

func TestPlacesOfData(t *testing.T) {
	sizes := []int{0, 1, 3, 4, 7, 8, 9, 15, 16, 17, 24, 65512, 65515, 65516, 65520, 65527, 65528, 65535, 65536}
	for _, off := range numbers {
		for _, size := range sizes {
			for _, more := range []bool{false, true} {
				checkPacket(t, "data at a place", changed(first(), func(p *api.Packet) { p.Off, p.More, p.Data = off, more, make([]byte, size) }))
			}
		}
	}
}

func TestLengths(t *testing.T) {
	for _, n := range []int{0, 4, 8, 36, 40} {
		for _, size := range []int{65515 - n, 65516 - n, 65475, 65476, 65515, 65516, 65535} {
			p := changed(first(), func(p *api.Packet) { p.Opts, p.Data = bytes.Repeat([]byte{1}, n), make([]byte, size) })
			checkPacket(t, "the longest", p)
			if Right(p) != (n+size <= 65515) {
				t.Fatalf("P5.1: options of %d bytes with %d of data: %v", n, size, Right(p))
			}
		}
	}
}

func TestOptions(t *testing.T) {
	for n := range 50 {
		for _, kind := range []byte{0, 1, 7, 148} {
			b := bytes.Repeat([]byte{kind}, n)
			checkPacket(t, "options of one byte, again and again", changed(first(), func(p *api.Packet) { p.Opts = b }))
			if n > 1 {
				b = append([]byte{kind, byte(n)}, make([]byte, n-2)...)
			}
			checkPacket(t, "an option of some length", changed(first(), func(p *api.Packet) { p.Opts = b }))
		}
	}
	right := [][]byte{nil, {}, {0, 0, 0, 0}, {1, 1, 1, 1}, {148, 4, 0, 0}, {7, 3, 9, 0}, {1, 7, 2, 1}}
	wrong := [][]byte{{1}, {148, 3, 0}, {7, 1, 0, 0}, {7, 0, 0, 0}, {7, 5, 0, 0}, {1, 1, 1, 7}, {0, 0, 0, 1}, {0, 1, 0, 0}, bytes.Repeat([]byte{1}, 44)}
	for _, b := range right {
		if p := changed(first(), func(p *api.Packet) { p.Opts = b }); !Right(p) || Head(p) != 20+len(b) {
			t.Errorf("P5.1: options % x: Head %d", b, Head(p))
		}
	}
	for _, b := range wrong {
		if p := changed(first(), func(p *api.Packet) { p.Opts = b }); Right(p) || Head(p) != 0 {
			t.Errorf("P5.1: options % x: Head %d", b, Head(p))
		}
	}
}

func TestRandomPackets(t *testing.T) {
	s := source(5)
	for range 20000 {
		p := s.packet()
		if !Right(p) {
			t.Fatalf("P5.1: not right: %v", p)
		}
		checkPacket(t, "a random packet", p)
		switch s.below(8) {
		case 0:
			p.Off = numbers[s.below(len(numbers))]
		case 1:
			p.More = !p.More
		case 2:
			p.Opts = s.bytes(s.below(45))
		case 3:
			p.Data = s.bytes(s.below(20))
		case 4:
			p.Src.B[s.below(16)] = 1
		case 5:
			p.TTL, p.TOS = numbers[s.below(len(numbers))], numbers[s.below(len(numbers))]
		case 6:
			p.Proto, p.ID = numbers[s.below(len(numbers))], uint32(numbers[s.below(len(numbers))])
		case 7:
			p.V, p.Flow, p.Frag = 4+2*s.below(2), s.below(2), s.chance()
		}
		checkPacket(t, "a packet nearly right", p)
	}
}

func TestPlacesOfFields(t *testing.T) {
	p := api.Packet{V: 4, TOS: 0x12, Src: api.Addr{V: 4, B: [16]byte{1, 2, 3, 4}}, Dst: api.Addr{V: 4, B: [16]byte{5, 6, 7, 8}}, Proto: 0x34, TTL: 0x56, ID: 0x789a, DF: true, More: true, Off: 0x1abc * 8, Opts: []byte{7, 8, 9, 10, 11, 12, 13, 14}, Data: []byte("01234567")}
	want := []byte("\x47\x12\x00\x24\x78\x9a\x7a\xbc\x56\x34\x00\x00\x01\x02\x03\x04\x05\x06\x07\x08\x07\x08\x09\x0a\x0b\x0c\x0d\x0e01234567")
	b, e := Build(p)
	if len(b) != 36 || e != api.OK || ones(b[:28]) != 65535 {
		t.Fatalf("P5.3: % x, %d", b, e)
	}
	if !bytes.Equal(put(b, 10, 0, 0), want) {
		t.Errorf("P5.3: % x, want % x", b, want)
	}
	// The data have no part in the sum.
	q, _ := Build(changed(p, func(p *api.Packet) { p.Data = []byte("76543210") }))
	if !bytes.Equal(b[:28], q[:28]) {
		t.Errorf("P5.3: a head that hangs on its data: % x, % x", b[:28], q[:28])
	}
}

func TestShortBytes(t *testing.T) {
	whole, _ := Build(changed(first(), func(p *api.Packet) { p.Opts, p.Data = bytes.Repeat([]byte{1}, 40), []byte("0123") }))
	for n := range len(whole) + 1 {
		for first := range 256 {
			b := put(whole[:n], 0, byte(first))
			checkBytes(t, "a piece", b)
			if n < 4 {
				continue
			}
			b[2], b[3] = 0, byte(n)
			checkBytes(t, "a piece with its length", b)
			if n >= 20 {
				checkBytes(t, "a piece with its length and sum", seal(b))
			}
		}
	}
	for n := range 70 {
		checkBytes(t, "nought bytes", make([]byte, n))
		checkBytes(t, "ones", bytes.Repeat([]byte{255}, n))
		checkBytes(t, "fours", bytes.Repeat([]byte{0x45}, n))
	}
}

func TestLengthTold(t *testing.T) {
	b, _ := Build(first())
	for n := range 65536 {
		c := seal(put(b, 2, byte(n>>8), byte(n)))
		if _, e := Parse(c); (e == api.OK) != (n == 23) || e != api.OK && e != api.ErrSize {
			t.Fatalf("P5.1: a length of %d told of 23 bytes: %d", n, e)
		}
	}
	// The two bytes cannot tell more than 65535, not even modulo 65536.
	for _, n := range []int{65535, 65536, 65536 + 23, 65575, 131072} {
		c := append(bytes.Clone(b), make([]byte, n-23)...)
		c = seal(put(c, 2, byte(n>>8), byte(n)))
		if _, e := Parse(c); (e == api.OK) != (n == 65535) || e != api.OK && e != api.ErrSize {
			t.Fatalf("P5.1: %d bytes: %d", n, e)
		}
	}
}

func TestSums(t *testing.T) {
	b, _ := Build(first())
	for n := range 65536 {
		if _, e := Parse(put(b, 10, byte(n>>8), byte(n))); (e == api.OK) != (n == 0x66cd) || e != api.OK && e != api.ErrSum {
			t.Fatalf("P5.1: a sum of %04x: %d", n, e)
		}
	}
	nought, _ := Build(changed(first(), func(p *api.Packet) { p.ID = 0x66d4 }))
	if !bytes.Equal(nought[10:12], []byte{0, 0}) {
		t.Fatalf("P5.3: a sum of 0: % x", nought)
	}
	if _, e := Parse(nought); e != api.OK {
		t.Errorf("P5.2: a sum of 0: %d", e)
	}
	if _, e := Parse(put(nought, 10, 255, 255)); e != api.ErrSum {
		t.Errorf("P5.1: ffff in the place of 0: %d", e)
	}
}

func TestFlags(t *testing.T) {
	s := source(55)
	for _, size := range []int{0, 1, 7, 8, 9, 16} {
		b, _ := Build(changed(first(), func(p *api.Packet) { p.Data = s.bytes(size) }))
		for n := range 65536 {
			checkBytes(t, "flags", seal(put(b, 6, byte(n>>8), byte(n))))
		}
	}
}

// TestOrder lays two faults into one packet's bytes: the error that is named first is told.
func TestOrder(t *testing.T) {
	whole, _ := Build(changed(first(), func(p *api.Packet) { p.Opts, p.Data = []byte{148, 4, 0, 0}, []byte("01234567") }))
	open := func(b []byte) []byte { return b }
	faults := []struct {
		e    api.Errno
		make func(b []byte) []byte
		seal func(b []byte) []byte
	}{
		{api.ErrShort, func(b []byte) []byte { return b[:19] }, open},
		{api.ErrForm, func(b []byte) []byte { return put(b, 0, 0x66) }, seal},
		{api.ErrForm, func(b []byte) []byte { return put(b, 0, 0x44) }, seal},
		{api.ErrShort, func(b []byte) []byte { return put(b, 0, 0x4f) }, open},
		{api.ErrSize, func(b []byte) []byte { return put(b, 3, 33) }, seal},
		{api.ErrSum, func(b []byte) []byte { return put(b, 11, b[11]^1) }, open},
		{api.ErrForm, func(b []byte) []byte { return put(b, 6, 0x80) }, seal},
		{api.ErrForm, func(b []byte) []byte { return put(b, 6, 0x3f, 0xff) }, seal},
		{api.ErrOpt, func(b []byte) []byte { return put(b, 21, 5) }, seal},
	}
	for i, one := range faults {
		if _, e := Parse(one.seal(one.make(whole))); e != one.e {
			t.Errorf("P5.1: fault %d alone: %d, want %d", i, e, one.e)
		}
		for j, two := range faults[i+1:] {
			// The later fault first, so that the earlier one's change stands; a fault of the sum keeps it.
			b := two.seal(two.make(whole))
			b = one.make(b)
			if len(b) >= 20 && one.e != api.ErrSum && two.e != api.ErrSum {
				b = one.seal(b)
			}
			if _, e := Parse(b); e != one.e {
				t.Errorf("P5.1: faults %d and %d: %d, want %d", i, i+1+j, e, one.e)
			}
		}
	}
}

func TestOptionsInBytes(t *testing.T) {
	s := source(505)
	for range 30000 {
		n := 4 * s.below(11)
		b, _ := Build(changed(first(), func(p *api.Packet) { p.Opts = bytes.Repeat([]byte{1}, n) }))
		for i := 20; i < 20+n; i++ {
			b[i] = []byte{0, 1, 2, 3, 7, 148, byte(n), byte(s.next() >> 30)}[s.below(8)]
		}
		checkBytes(t, "options", seal(b))
	}
}

func TestRandomBytes(t *testing.T) {
	s := source(5005)
	for range 40000 {
		b, _ := Build(s.packet())
		for range s.below(4) {
			switch s.below(6) {
			case 0:
				b = b[:s.below(len(b)+1)]
			case 1:
				b = append(b, s.bytes(s.below(9))...)
			default:
				if len(b) > 0 {
					b[s.below(min(len(b), 24))] = byte(s.octet())
				}
			}
			if len(b) >= 20 && s.chance() {
				b = seal(put(b, 2, byte(len(b)>>8), byte(len(b))))
			}
		}
		checkBytes(t, "spoilt bytes", b)
	}
}

// TestOneForm looks for two packets with the same bytes, near one another and afar.
func TestOneForm(t *testing.T) {
	s := source(50005)
	seen := map[string]api.Packet{}
	for range 3000 {
		p := s.packet()
		for _, q := range []api.Packet{
			p,
			changed(p, func(p *api.Packet) { p.TOS ^= 1 << s.below(8) }),
			changed(p, func(p *api.Packet) { p.Proto ^= 1 << s.below(8) }),
			changed(p, func(p *api.Packet) { p.TTL ^= 1 << s.below(8) }),
			changed(p, func(p *api.Packet) { p.ID ^= 1 << s.below(16) }),
			changed(p, func(p *api.Packet) { p.DF = !p.DF }),
			changed(p, func(p *api.Packet) { p.More = !p.More }),
			changed(p, func(p *api.Packet) { p.Off ^= 8 }),
			changed(p, func(p *api.Packet) { p.Src, p.Dst = p.Dst, p.Src }),
			changed(p, func(p *api.Packet) { p.Opts, p.Data = nil, slices.Concat(p.Opts, p.Data) }),
			changed(p, func(p *api.Packet) { p.Data = append(bytes.Clone(p.Data), 0) }),
			changed(p, func(p *api.Packet) { p.Opts = append(bytes.Clone(p.Opts), 0, 0, 0, 0) }),
		} {
			b, e := Build(q)
			if e != api.OK {
				continue
			}
			if old, ok := seen[string(b)]; ok && !same(old, q) {
				t.Fatalf("P5.2: two packets of the bytes % x: %v, %v", b, old, q)
			}
			seen[string(b)] = q
		}
	}
}

func TestNilAndEmpty(t *testing.T) {
	p := first()
	p.Opts, p.Data = nil, nil
	q := first()
	q.Opts, q.Data = []byte{}, []byte{}
	a, e := Build(p)
	b, f := Build(q)
	if !bytes.Equal(a, b) || e != api.OK || f != api.OK || len(a) != 20 {
		t.Errorf("P5.1: nil and empty lists: % x, %d, % x, %d", a, e, b, f)
	}
	if _, e := Parse(nil); e != api.ErrShort {
		t.Errorf("P5.1: Parse of nil: %d", e)
	}
}

func TestOneBit(t *testing.T) {
	s := source(500005)
	for range 400 {
		p := s.packet()
		b, _ := Build(p)
		head := Head(p)
		for bit := 8; bit < 8*len(b); bit++ {
			at, flip := bit/8, byte(1)<<(bit%8)
			q, e := Parse(put(b, at, b[at]^flip))
			if at < head {
				if e == api.OK || !same(q, api.Packet{}) {
					t.Fatalf("P5.4: bit %d of % x: %v, %d", bit, b, q, e)
				}
				continue
			}
			want := changed(p, func(p *api.Packet) { p.Data = put(p.Data, at-head, p.Data[at-head]^flip) })
			if e != api.OK || !same(q, want) {
				t.Fatalf("P5.4: bit %d of % x: %v, %d", bit, b, q, e)
			}
		}
	}
}

// roomy is b with spare room behind it, and all of that room.
func roomy(b []byte) ([]byte, []byte) {
	all := append(bytes.Clone(b), bytes.Repeat([]byte{0xee}, 80)...)
	return all[:len(b)], all
}

func scribble(b []byte) {
	b = b[:cap(b)]
	for i := range b {
		b[i] ^= 0x55
	}
}

func TestNothingIsShared(t *testing.T) {
	s := source(6)
	for range 500 {
		p := s.packet()
		want := laid(p)
		kept := changed(p, func(p *api.Packet) { p.Opts, p.Data = bytes.Clone(p.Opts), bytes.Clone(p.Data) })
		var allOpts, allData []byte
		p.Opts, allOpts = roomy(p.Opts)
		p.Data, allData = roomy(p.Data)
		wasOpts, wasData := bytes.Clone(allOpts), bytes.Clone(allData)
		b, _ := Build(p)
		c, _ := Build(p)
		Right(p)
		Head(p)
		if !bytes.Equal(allOpts, wasOpts) || !bytes.Equal(allData, wasData) {
			t.Fatal("P5.1: what was handed to Build is changed")
		}
		scribble(b)
		if !bytes.Equal(c, want) || !bytes.Equal(allOpts, wasOpts) || !bytes.Equal(allData, wasData) {
			t.Fatal("P5.1: what Build told is shared")
		}
		scribble(allOpts)
		scribble(allData)
		if !bytes.Equal(c, want) {
			t.Fatal("P5.1: what was handed to Build is kept")
		}
		checkParsedAlone(t, want, kept)
	}
}

func checkParsedAlone(t *testing.T, b []byte, want api.Packet) {
	t.Helper()
	b, all := roomy(b)
	was := bytes.Clone(all)
	p, _ := Parse(b)
	q, _ := Parse(b)
	scribble(p.Opts)
	if !bytes.Equal(p.Data, want.Data) {
		t.Fatal("P5.1: the options and the data that Parse told share memory")
	}
	p, _ = Parse(b)
	scribble(p.Data)
	if !bytes.Equal(p.Opts, want.Opts) {
		t.Fatal("P5.1: the data and the options that Parse told share memory")
	}
	if !bytes.Equal(all, was) {
		t.Fatal("P5.1: what was handed to Parse is changed")
	}
	scribble(all)
	if !same(q, want) {
		t.Fatal("P5.1: what was handed to Parse is kept, or what it told is shared")
	}
}
