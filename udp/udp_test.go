package udp

import (
	"bytes"
	"math"
	"testing"

	"mosaic/api"
	"mosaic/sum"
)

// source is a plain generator, so that every run sees the same inputs.
type source uint64

func (s *source) next() uint64 {
	*s ^= *s << 13
	*s ^= *s >> 7
	*s ^= *s << 17
	return uint64(*s)
}

func (s *source) below(n int) int { return int((s.next() >> 11) % uint64(n)) }

func (s *source) chance() bool { return s.below(2) == 0 }

// bytes are often many equal ones, 00 or ff.
func (s *source) bytes(n int) []byte {
	b := make([]byte, n)
	fill := s.below(4)
	for i := range b {
		b[i] = [4]byte{byte(s.next() >> 30), byte(s.next() >> 30), 0, 255}[fill]
	}
	return b
}

func (s *source) address(v int) api.Addr {
	a := api.Addr{V: v, B: [16]byte(s.bytes(16))}
	if v == 4 {
		clear(a.B[4:])
	}
	return a
}

func (s *source) port() int { return []int{0, 1, 65535, s.below(65536)}[s.below(4)] }

// dgram is one that may be built over version v.
func (s *source) dgram(v int) api.Dgram {
	return api.Dgram{SPort: s.port(), DPort: s.port(), NoSum: v == 4 && s.below(3) == 0, Data: s.bytes([]int{0, 1, 2, 3, s.below(64)}[s.below(5)])}
}

func four(last byte) api.Addr { return api.Addr{V: 4, B: [16]byte{10, 0, 0, last}} }

func six(last byte) api.Addr { return api.Addr{V: 6, B: [16]byte{0x20, 1, 0x0d, 0xb8, 15: last}} }

// ends are two addresses of one version each.
func ends() [][2]api.Addr { return [][2]api.Addr{{four(1), four(2)}, {six(1), six(2)}} }

// size is how many bytes an address has; 0: it is none.
func size(a api.Addr) int {
	if a.V == 6 {
		return 16
	}
	for i, x := range a.B {
		if a.V != 4 || i >= 4 && x != 0 {
			return 0
		}
	}
	return 4
}

func fit(src, dst api.Addr) bool { return size(src) > 0 && size(src) == size(dst) }

// over is the chapter's pseudo-header, and bytes behind it.
func over(src, dst api.Addr, proto, n int, b []byte) []byte {
	out := append(bytes.Clone(src.B[:size(src)]), dst.B[:size(dst)]...)
	if size(src) == 4 {
		out = append(out, 0, byte(proto), byte(n/256), byte(n%256))
	} else {
		out = append(out, 0, 0, byte(n/256), byte(n%256), 0, 0, 0, byte(proto))
	}
	return append(out, b...)
}

// ring is the one's complement sum of bytes, the carry brought round at every word.
func ring(b []byte) uint16 {
	n := 0
	for i, x := range b {
		if i%2 == 0 {
			n += int(x) * 256
		} else {
			n += int(x)
		}
		if n > 65535 {
			n -= 65535
		}
	}
	return uint16(n)
}

// greatest is how many bytes of data a datagram between such addresses may have.
func greatest(a api.Addr) int {
	if a.V == 4 {
		return 65507
	}
	return 65527
}

// laid is the chapter's Build.
func laid(src, dst api.Addr, d api.Dgram) ([]byte, api.Errno) {
	if !fit(src, dst) || uint64(d.SPort) > 65535 || uint64(d.DPort) > 65535 || d.NoSum && src.V == 6 {
		return nil, api.ErrArg
	}
	if len(d.Data) > greatest(src) {
		return nil, api.ErrLong
	}
	n := 8 + len(d.Data)
	b := append([]byte{byte(d.SPort / 256), byte(d.SPort % 256), byte(d.DPort / 256), byte(d.DPort % 256), byte(n / 256), byte(n % 256), 0, 0}, d.Data...)
	if d.NoSum {
		return b, api.OK
	}
	s := 65535 - int(ring(over(src, dst, 17, n, b)))
	if s == 0 {
		s = 65535
	}
	b[6], b[7] = byte(s/256), byte(s%256)
	return b, api.OK
}

// judged is the chapter's list of Parse's errors, in its order.
func judged(src, dst api.Addr, b []byte) api.Errno {
	if !fit(src, dst) {
		return api.ErrArg
	}
	if len(b) < 8 {
		return api.ErrShort
	}
	if int(b[4])*256+int(b[5]) != len(b) || len(b)-8 > greatest(src) {
		return api.ErrSize
	}
	if b[6] == 0 && b[7] == 0 {
		if src.V == 6 {
			return api.ErrSum
		}
		return api.OK
	}
	if ring(over(src, dst, 17, len(b), b)) != 65535 {
		return api.ErrSum
	}
	return api.OK
}

func same(d, e api.Dgram) bool {
	return d.SPort == e.SPort && d.DPort == e.DPort && d.NoSum == e.NoSum && bytes.Equal(d.Data, e.Data)
}

func nothing(d api.Dgram) bool { return same(d, api.Dgram{}) }

// put is b with other bytes from a place on.
func put(b []byte, at int, v ...byte) []byte {
	b = bytes.Clone(b)
	copy(b[at:], v)
	return b
}

// measured is b with its own length told.
func measured(b []byte) []byte { return put(b, 4, byte(len(b)>>8), byte(len(b))) }

// summed is b with its own checksum.
func summed(src, dst api.Addr, b []byte) []byte {
	s := 65535 - ring(over(src, dst, 17, len(b), put(b, 6, 0, 0)))
	if s == 0 {
		s = 65535
	}
	return put(b, 6, byte(s>>8), byte(s))
}

func front(b []byte) []byte { return b[:min(len(b), 48)] }

func checkPseudo(t *testing.T, src, dst api.Addr, proto, n int) {
	t.Helper()
	var want uint16
	code := api.ErrArg
	if fit(src, dst) && uint64(proto) <= 255 && uint64(n) <= 65535 {
		want, code = ring(over(src, dst, proto, n, nil)), api.OK
	}
	if p, e := Pseudo(src, dst, proto, n); p != want || e != code {
		t.Fatalf("P7.1: Pseudo(%v, %v, %d, %d): %#x, %d, want %#x, %d", src, dst, proto, n, p, e, want, code)
	}
}

func checkBuild(t *testing.T, src, dst api.Addr, d api.Dgram) {
	t.Helper()
	want, code := laid(src, dst, d)
	b, e := Build(src, dst, d)
	if !bytes.Equal(b, want) || e != code {
		t.Fatalf("P7.2: Build(%v, %v, %d, %d, %v, %d bytes): % x, %d, want % x, %d", src, dst, d.SPort, d.DPort, d.NoSum, len(d.Data), front(b), e, front(want), code)
	}
	if e != api.OK {
		return
	}
	if back, e := Parse(src, dst, b); !same(back, d) || e != api.OK {
		t.Fatalf("P7.4: Parse of Build(%d, %d, %v, %d bytes): %d, %d, %v, %d bytes, %d", d.SPort, d.DPort, d.NoSum, len(d.Data), back.SPort, back.DPort, back.NoSum, len(back.Data), e)
	}
}

func checkParse(t *testing.T, src, dst api.Addr, b []byte) {
	t.Helper()
	want := judged(src, dst, b)
	d, e := Parse(src, dst, b)
	if e != want {
		t.Fatalf("P7.3: Parse(%v, %v, %d bytes, % x): %d, want %d", src, dst, len(b), front(b), e, want)
	}
	if e != api.OK {
		if !nothing(d) {
			t.Fatalf("P7.3: Parse tells %d, %d, %v, %d bytes beside error %d", d.SPort, d.DPort, d.NoSum, len(d.Data), e)
		}
		return
	}
	if d.SPort != int(b[0])*256+int(b[1]) || d.DPort != int(b[2])*256+int(b[3]) || d.NoSum != (b[6] == 0 && b[7] == 0) || !bytes.Equal(d.Data, b[8:]) {
		t.Fatalf("P7.3: Parse of % x: %d, %d, %v, % x", front(b), d.SPort, d.DPort, d.NoSum, front(d.Data))
	}
	if again, e := Build(src, dst, d); !bytes.Equal(again, b) || e != api.OK {
		t.Fatalf("P7.4: Build of Parse of % x: % x, %d", front(b), front(again), e)
	}
	if d.NoSum {
		return
	}
	p, e := Pseudo(src, dst, 17, len(b))
	if s := sum.Add(p, sum.Part(b)); s != 65535 || e != api.OK {
		t.Fatalf("P7.5: % x: the sum is %d, %d", front(b), s, e)
	}
	if back, e := Parse(dst, src, b); !same(back, d) || e != api.OK {
		t.Fatalf("P7.5: % x with the addresses exchanged: %d", front(b), e)
	}
}

var hi = api.Dgram{SPort: 1000, DPort: 7, Data: []byte("hi")}

func hiBytes() []byte { return []byte{3, 0xe8, 0, 7, 0, 10, 0x7f, 0x7f, 0x68, 0x69} }

func TestExamplePseudo(t *testing.T) {
	for i, c := range []struct {
		src, dst api.Addr
		proto, n int
		want     uint16
		e        api.Errno
	}{
		{four(1), four(2), 17, 10, 0x141e, api.OK},
		{four(1), four(2), 17, 65536, 0, api.ErrArg},
		{four(1), four(2), 256, 10, 0, api.ErrArg},
		{four(1), six(2), 17, 10, 0, api.ErrArg},
		{six(1), four(2), 17, 10, 0, api.ErrArg},
		// 2001 + 0db8 + 0001 + 2001 + 0db8 + 0002 + 000a + 0011.
		{six(1), six(2), 17, 10, 0x5b90, api.OK},
		{six(1), six(2), 58, 10, 0x5bb9, api.OK},
		// All words 0: the only Part that is 0.
		{api.Addr{V: 4}, api.Addr{V: 4}, 0, 0, 0, api.OK},
		{api.Addr{V: 6}, api.Addr{V: 6}, 0, 0, 0, api.OK},
		// The words of the two addresses are a whole round.
		{api.Addr{V: 4, B: [16]byte{255, 255}}, api.Addr{V: 4}, 0, 0, 65535, api.OK},
		{api.Addr{V: 6, B: [16]byte{14: 255, 15: 254}}, api.Addr{V: 6, B: [16]byte{15: 1}}, 0, 0, 65535, api.OK},
	} {
		if p, e := Pseudo(c.src, c.dst, c.proto, c.n); p != c.want || e != c.e {
			t.Errorf("P7.1: row %d: %#x, %d, want %#x, %d", i, p, e, c.want, c.e)
		}
		checkPseudo(t, c.src, c.dst, c.proto, c.n)
	}
}

func TestExampleBuild(t *testing.T) {
	bare := hi
	bare.NoSum = true
	empty := make([]byte, 65528)
	for i, c := range []struct {
		src, dst api.Addr
		d        api.Dgram
		want     []byte
		e        api.Errno
	}{
		{four(1), four(2), hi, hiBytes(), api.OK},
		{four(1), four(2), bare, put(hiBytes(), 6, 0, 0), api.OK},
		{four(1), four(2), api.Dgram{SPort: 65536}, nil, api.ErrArg},
		{four(1), four(2), api.Dgram{DPort: 65536}, nil, api.ErrArg},
		{six(1), six(2), bare, nil, api.ErrArg},
		{four(1), six(2), hi, nil, api.ErrArg},
		{six(1), four(2), hi, nil, api.ErrArg},
		{four(1), four(2), api.Dgram{Data: empty[:65508]}, nil, api.ErrLong},
		{six(1), six(2), api.Dgram{Data: empty}, nil, api.ErrLong},
		// The words' plain sum is 0xffff: the sum comes out 0.
		{four(1), four(2), api.Dgram{SPort: 1000, DPort: 7, Data: []byte{0xe7, 0xe8}}, []byte{3, 0xe8, 0, 7, 0, 10, 255, 255, 0xe7, 0xe8}, api.OK},
		// One byte is the high half of a word: 141d + 03e8 + 0007 + 0009 + 6800 = 8015.
		{four(1), four(2), api.Dgram{SPort: 1000, DPort: 7, Data: []byte("h")}, []byte{3, 0xe8, 0, 7, 0, 9, 0x7f, 0xea, 0x68}, api.OK},
		{four(1), four(2), api.Dgram{}, []byte{0, 0, 0, 0, 0, 8, 0xeb, 0xdb}, api.OK},
	} {
		if b, e := Build(c.src, c.dst, c.d); !bytes.Equal(b, c.want) || e != c.e {
			t.Errorf("P7.2: row %d: % x, %d, want % x, %d", i, b, e, c.want, c.e)
		}
		checkBuild(t, c.src, c.dst, c.d)
	}
	for _, n := range []int{65508, 65527} {
		if b, e := Build(six(1), six(2), api.Dgram{Data: empty[:n]}); len(b) != n+8 || e != api.OK {
			t.Errorf("P7.2: %d bytes over IPv6: %d, %d", n, len(b), e)
		}
	}
}

func TestExampleParse(t *testing.T) {
	none := put(hiBytes(), 6, 0, 0)
	for i, c := range []struct {
		src, dst api.Addr
		b        []byte
		e        api.Errno
	}{
		{four(1), four(2), hiBytes(), api.OK},
		{four(2), four(1), hiBytes(), api.OK},
		{four(1), four(2), hiBytes()[:9], api.ErrSize},
		{four(1), four(2), hiBytes()[:7], api.ErrShort},
		{four(1), four(2), nil, api.ErrShort},
		{four(1), four(2), put(hiBytes(), 9, 0x6a), api.ErrSum},
		{four(1), four(2), none, api.OK},
		{six(1), six(2), none, api.ErrSum},
		{six(1), six(2), hiBytes(), api.ErrSum},
		{four(1), four(3), hiBytes(), api.ErrSum},
		{four(1), six(2), hiBytes(), api.ErrArg},
		{four(1), four(2), put(hiBytes(), 5, 0), api.ErrSize},
		{four(1), four(2), put(hiBytes(), 5, 9), api.ErrSize},
		{four(1), four(2), put(hiBytes(), 5, 11), api.ErrSize},
	} {
		d, e := Parse(c.src, c.dst, c.b)
		if e != c.e {
			t.Errorf("P7.3: row %d: %d, want %d", i, e, c.e)
		}
		if e == api.OK && (d.SPort != 1000 || d.DPort != 7 || string(d.Data) != "hi" || d.NoSum != (c.b[6] == 0)) || e != api.OK && !nothing(d) {
			t.Errorf("P7.3: row %d: %v", i, d)
		}
		checkParse(t, c.src, c.dst, c.b)
	}
}

// numbers are edges of every field, and beyond them.
var numbers = []int{
	0, 1, 2, 4, 6, 7, 8, 9, 17, 58, 127, 128, 254, 255, 256, 257, 32767, 32768, 65507, 65508, 65515, 65516, 65527, 65528, 65534, 65535, 65536, 65537, 65546, 131071, 1<<31 - 1, 1 << 31, 1<<32 - 1, 1 << 32, 1<<32 + 17, 1 << 62, math.MaxInt - 1, math.MaxInt,
	-1, -2, -8, -17, -255, -256, -65535, -65536, -1 << 32, math.MinInt, math.MinInt + 1, math.MinInt + 17,
}

func TestNumbersAtTheirEdges(t *testing.T) {
	for _, two := range ends() {
		for _, n := range numbers {
			for _, m := range numbers {
				checkPseudo(t, two[0], two[1], n, m)
				checkBuild(t, two[0], two[1], api.Dgram{SPort: n, DPort: m, Data: []byte{1}})
				checkBuild(t, two[0], two[1], api.Dgram{SPort: n, DPort: m, NoSum: true})
			}
		}
	}
}

func TestEveryProtocolAndLength(t *testing.T) {
	for _, two := range ends() {
		for proto := -1; proto <= 256; proto++ {
			checkPseudo(t, two[0], two[1], proto, 0)
			checkPseudo(t, two[0], two[1], proto, 65535)
		}
		for n := -1; n <= 65536; n++ {
			checkPseudo(t, two[0], two[1], 17, n)
		}
	}
}

// strange are pairs that are not two addresses of one version.
func strange() [][2]api.Addr {
	out := [][2]api.Addr{{four(1), six(2)}, {six(1), four(2)}, {{}, {}}, {{V: 5}, {V: 5}}, {{V: 10}, {V: 10}}, {{V: 4}, {V: 6}}, {{V: 6}, {V: 4}}}
	for _, v := range numbers {
		if v == 4 || v == 6 {
			continue
		}
		for _, a := range []api.Addr{four(1), six(1)} {
			b := a
			b.V = v
			out = append(out, [2]api.Addr{a, b}, [2]api.Addr{b, a}, [2]api.Addr{b, b})
		}
	}
	for at := 4; at < 16; at++ {
		a := four(1)
		a.B[at] = 1
		out = append(out, [2]api.Addr{a, four(2)}, [2]api.Addr{four(2), a}, [2]api.Addr{a, a})
	}
	return out
}

// TestWrongAddresses: they are ErrArg ahead of all else.
func TestWrongAddresses(t *testing.T) {
	long := make([]byte, 65536)
	for _, two := range strange() {
		if fit(two[0], two[1]) {
			t.Fatalf("%v fit", two)
		}
		for _, n := range []int{-1, 0, 17, 256, 65536} {
			checkPseudo(t, two[0], two[1], n, n)
		}
		for _, d := range []api.Dgram{hi, {SPort: -1}, {Data: long}, {NoSum: true}} {
			checkBuild(t, two[0], two[1], d)
		}
		for _, b := range [][]byte{nil, hiBytes()[:7], hiBytes(), put(hiBytes(), 5, 0), put(hiBytes(), 9, 0), put(hiBytes(), 6, 0, 0), long} {
			if d, e := Parse(two[0], two[1], b); e != api.ErrArg || !nothing(d) {
				t.Fatalf("P7.3: Parse(%v, %v, %d bytes): %d, want %d", two[0], two[1], len(b), e, api.ErrArg)
			}
		}
	}
}

// TestAddressesCount: every byte of both addresses is in the sum, and in its place.
func TestAddressesCount(t *testing.T) {
	for _, two := range ends() {
		for at := range size(two[0]) {
			for which := range two {
				other := two
				other[which].B[at] ^= 0x5a
				checkPseudo(t, other[0], other[1], 17, 10)
				checkBuild(t, other[0], other[1], hi)
				b, _ := Build(two[0], two[1], hi)
				if _, e := Parse(other[0], other[1], b); e != api.ErrSum {
					t.Fatalf("P7.3: with another byte %d of address %d: %d", at, which, e)
				}
			}
		}
	}
}

func TestLengthsOfData(t *testing.T) {
	s := source(7)
	for _, two := range ends() {
		for _, n := range []int{0, 1, 2, 3, 65506, 65507, 65508, 65509, 65526, 65527, 65528, 65529, 65536, 131072} {
			data := s.bytes(n)
			d := api.Dgram{SPort: 1, DPort: 2, Data: data}
			checkBuild(t, two[0], two[1], d)
			b, e := Build(two[0], two[1], d)
			if (e == api.OK) != (n <= greatest(two[0])) || e != api.OK && (e != api.ErrLong || len(b) > 0) {
				t.Fatalf("P7.2: %d bytes over version %d: %d bytes, %d", n, two[0].V, len(b), e)
			}
			d.NoSum = true
			checkBuild(t, two[0], two[1], d)
		}
	}
	// An error of the arguments goes ahead of the length.
	long := make([]byte, 65529)
	for _, two := range ends() {
		for _, d := range []api.Dgram{{SPort: -1, Data: long}, {DPort: 65536, Data: long}} {
			if b, e := Build(two[0], two[1], d); e != api.ErrArg || len(b) > 0 {
				t.Errorf("P7.2: a wrong port and too much data: %d", e)
			}
		}
	}
	if _, e := Build(six(1), six(2), api.Dgram{NoSum: true, Data: long}); e != api.ErrArg {
		t.Errorf("P7.2: NoSum over IPv6 and too much data: %d", e)
	}
	if _, e := Build(four(1), four(2), api.Dgram{NoSum: true, Data: long}); e != api.ErrLong {
		t.Errorf("P7.2: NoSum over IPv4 and too much data: %d", e)
	}
}

func TestNilAndEmpty(t *testing.T) {
	for _, two := range ends() {
		one, e := Build(two[0], two[1], api.Dgram{SPort: 5, DPort: 6})
		other, f := Build(two[0], two[1], api.Dgram{SPort: 5, DPort: 6, Data: []byte{}})
		if !bytes.Equal(one, other) || len(one) != 8 || e != api.OK || f != api.OK {
			t.Errorf("P7.2: no data: % x, %d, % x, %d", one, e, other, f)
		}
		if d, e := Parse(two[0], two[1], one); len(d.Data) != 0 || d.SPort != 5 || d.DPort != 6 || e != api.OK {
			t.Errorf("P7.4: no data: %v, %d", d, e)
		}
		for _, b := range [][]byte{nil, {}} {
			if d, e := Parse(two[0], two[1], b); !nothing(d) || e != api.ErrShort {
				t.Errorf("P7.3: no bytes: %v, %d", d, e)
			}
		}
	}
}

// TestSumOfZero: of all words of data those whose sum comes out 0 are laid with ffff, and no other.
func TestSumOfZero(t *testing.T) {
	for _, two := range ends() {
		zeros := 0
		for n := range 65536 {
			d := api.Dgram{SPort: 1000, DPort: 7, Data: []byte{byte(n >> 8), byte(n)}}
			checkBuild(t, two[0], two[1], d)
			b, _ := Build(two[0], two[1], d)
			if b[6] == 0 && b[7] == 0 {
				t.Fatalf("P7.2: data %04x: a checksum of 0", n)
			}
			if b[6] == 255 && b[7] == 255 {
				zeros++
			}
		}
		if zeros != 1 {
			t.Errorf("P7.2: %d words make the sum 0", zeros)
		}
	}
	// The port alone makes it 0, too; so do ones with a whole round of others.
	for sport := range 65536 {
		for _, two := range ends() {
			checkBuild(t, two[0], two[1], api.Dgram{SPort: sport, Data: []byte{255}})
		}
	}
}

// TestEveryChecksum: one word is taken, and over IPv4 the word 0.
func TestEveryChecksum(t *testing.T) {
	for _, two := range ends() {
		for _, d := range []api.Dgram{hi, {SPort: 1}, {SPort: 1000, DPort: 7, Data: []byte{0xe7, 0xe8}}, {Data: []byte{1, 2, 3}}} {
			good, _ := Build(two[0], two[1], d)
			for n := range 65536 {
				b := put(good, 6, byte(n>>8), byte(n))
				want := api.ErrSum
				if bytes.Equal(b, good) || n == 0 && two[0].V == 4 {
					want = api.OK
				}
				got, e := Parse(two[0], two[1], b)
				if e != want || e == api.OK && got.NoSum != (n == 0) {
					t.Fatalf("P7.3: the checksum %04x over version %d: %d, want %d", n, two[0].V, e, want)
				}
			}
		}
	}
}

func TestEveryLengthTold(t *testing.T) {
	for _, two := range ends() {
		for _, long := range []int{8, 9, 10, 300} {
			for n := range 65536 {
				b := put(make([]byte, long), 0, 3, 0xe8, 0, 7, byte(n>>8), byte(n))
				// With its own sum, so that the length alone is wrong.
				b = summed(two[0], two[1], b)
				want := api.ErrSize
				if n == long {
					want = api.OK
				}
				if d, e := Parse(two[0], two[1], b); e != want || e != api.OK && !nothing(d) {
					t.Fatalf("P7.3: a length of %d told of %d bytes: %d, want %d", n, long, e, want)
				}
			}
		}
	}
}

// TestLengthsOfBytes: the shortest and the longest, each with its own length and sum.
func TestLengthsOfBytes(t *testing.T) {
	s := source(77)
	for _, two := range ends() {
		for _, n := range []int{0, 1, 5, 6, 7, 8, 9, 65514, 65515, 65516, 65517, 65534, 65535, 65536, 65537, 65544, 131072} {
			b := s.bytes(n)
			if n >= 8 {
				b = summed(two[0], two[1], measured(b))
			}
			checkParse(t, two[0], two[1], b)
			want := api.OK
			switch {
			case n < 8:
				want = api.ErrShort
			case n > greatest(two[0])+8:
				want = api.ErrSize
			}
			if _, e := Parse(two[0], two[1], b); e != want {
				t.Fatalf("P7.3: %d bytes over version %d: %d, want %d", n, two[0].V, e, want)
			}
			if n >= 8 {
				checkParse(t, two[0], two[1], put(b, 6, 0, 0))
				checkParse(t, two[0], two[1], put(b, 6, b[6]^1))
			}
		}
	}
}

// TestOrder lays two faults into one datagram's bytes: the error that is named first is told.
func TestOrder(t *testing.T) {
	faults := []struct {
		e    api.Errno
		make func(b []byte) []byte
	}{
		{api.ErrShort, func(b []byte) []byte { return b[:7] }},
		{api.ErrSize, func(b []byte) []byte { return put(b, 5, b[5]+1) }},
		{api.ErrSize, func(b []byte) []byte { return measured(append(bytes.Clone(b), make([]byte, 65528)...)) }},
		{api.ErrSum, func(b []byte) []byte { return put(b, 0, b[0]+1) }},
	}
	for _, two := range ends() {
		whole, _ := Build(two[0], two[1], hi)
		for i, one := range faults {
			if _, e := Parse(two[0], two[1], one.make(whole)); e != one.e {
				t.Errorf("P7.3: fault %d alone: %d, want %d", i, e, one.e)
			}
			for j, other := range faults[i+1:] {
				// The later fault first, so that the earlier one's change stands.
				if _, e := Parse(two[0], two[1], one.make(other.make(whole))); e != one.e {
					t.Errorf("P7.3: faults %d and %d: %d, want %d", i, i+1+j, e, one.e)
				}
			}
		}
	}
	if _, e := Parse(six(1), six(2), put(hiBytes(), 4, 0, 9, 0, 0)); e != api.ErrSize {
		t.Errorf("P7.3: a wrong length and no checksum over IPv6: %d", e)
	}
}

// TestOneByte: P7.6, with every other byte at every place.
func TestOneByte(t *testing.T) {
	s := source(777)
	for _, two := range ends() {
		some := []api.Dgram{hi, {}, {SPort: 1000, DPort: 7, Data: []byte{0xe7, 0xe8}}, {SPort: 65535, DPort: 65535, Data: bytes.Repeat([]byte{255}, 9)}, {Data: make([]byte, 9)}}
		for range 20 {
			some = append(some, s.dgram(6))
		}
		for _, d := range some {
			whole, _ := Build(two[0], two[1], d)
			for at := range whole {
				for v := range 256 {
					if whole[at] != byte(v) {
						checkOneByte(t, two, whole, at, byte(v))
					}
				}
			}
		}
	}
}

func checkOneByte(t *testing.T, two [2]api.Addr, whole []byte, at int, v byte) {
	t.Helper()
	b := put(whole, at, v)
	want := api.ErrSum
	switch {
	case at == 4 || at == 5:
		want = api.ErrSize
	case b[6] == 0 && b[7] == 0 && two[0].V == 4:
		want = api.OK
	}
	if d, e := Parse(two[0], two[1], b); e != want || d.NoSum != (e == api.OK) {
		t.Fatalf("P7.6: % x with %02x at %d: %d, want %d", front(whole), v, at, e, want)
	}
}

// TestChecksumBecomesNone: a checksum with one byte 0, whose other byte becomes 0.
func TestChecksumBecomesNone(t *testing.T) {
	for _, two := range ends() {
		for _, at := range []int{6, 7} {
			found := 0
			for n := range 65536 {
				b, _ := Build(two[0], two[1], api.Dgram{SPort: n})
				if b[13-at] != 0 {
					continue
				}
				found++
				checkOneByte(t, two, b, at, 0)
			}
			if found == 0 {
				t.Errorf("P7.6: no such checksum, place %d", at)
			}
		}
	}
}

// TestTwoWords: two words exchanged, or one greater by 1 and one less, have the same sum and are taken.
func TestTwoWords(t *testing.T) {
	for _, two := range ends() {
		b, _ := Build(two[0], two[1], api.Dgram{SPort: 5, DPort: 9, Data: []byte{1, 2, 3, 4}})
		for _, c := range [][]byte{put(b, 0, 0, 9, 0, 5), put(b, 8, 3, 4, 1, 2), put(b, 8, 1, 3, 3, 3)} {
			checkParse(t, two[0], two[1], c)
			if _, e := Parse(two[0], two[1], c); e != api.OK {
				t.Errorf("P7.6: the same sum of other words: %d", e)
			}
		}
		if d, e := Parse(two[0], two[1], put(b, 0, 0, 9, 0, 5)); d.SPort != 9 || d.DPort != 5 || e != api.OK {
			t.Errorf("P7.5: words exchanged: %v, %d", d, e)
		}
	}
}

func TestRandomDatagrams(t *testing.T) {
	s := source(7777)
	for range 20000 {
		v := 4 + 2*s.below(2)
		src, dst, d := s.address(v), s.address(v), s.dgram(v)
		b, e := Build(src, dst, d)
		if e != api.OK {
			t.Fatalf("P7.2: Build(%v, %v, %v): %d", src, dst, d, e)
		}
		checkBuild(t, src, dst, d)
		checkParse(t, src, dst, b)
		checkPseudo(t, src, dst, s.below(256), s.port())
		if d.NoSum {
			continue
		}
		if back, e := Parse(dst, src, b); !same(back, d) || e != api.OK {
			t.Fatalf("P7.5: % x with the addresses exchanged: %d", b, e)
		}
		c := bytes.Clone(b)
		for range s.below(4) {
			c[s.below(len(c))] = byte(s.next() >> 30)
		}
		checkParse(t, src, dst, c)
		checkParse(t, src, dst, c[:s.below(len(c)+1)])
	}
}

func TestRandomBytes(t *testing.T) {
	s := source(77777)
	taken := 0
	for range 40000 {
		v := 4 + 2*s.below(2)
		src, dst := s.address(v), s.address(v)
		b := s.bytes(s.below(40))
		if len(b) >= 8 && s.below(8) > 0 {
			b = measured(b)
			switch s.below(3) {
			case 0:
				b = put(b, 6, 0, 0)
			case 1:
				b = summed(src, dst, b)
			}
		}
		checkParse(t, src, dst, b)
		if _, e := Parse(src, dst, b); e == api.OK {
			taken++
		}
	}
	if taken < 5000 || taken > 35000 {
		t.Errorf("%d of the random bytes are taken", taken)
	}
}

// TestNothingShared: P7.7.
func TestNothingShared(t *testing.T) {
	for _, two := range ends() {
		for n := range 20 {
			store := bytes.Repeat([]byte{0x77}, 64)
			was := bytes.Clone(store)
			d := api.Dgram{SPort: 1, DPort: 2, Data: store[8 : 8+n]}
			b, _ := Build(two[0], two[1], d)
			other, _ := Build(two[0], two[1], d)
			if !bytes.Equal(store, was) {
				t.Fatalf("P7.7: Build changes what is handed in")
			}
			clear(store)
			if !bytes.Equal(b[8:], was[8:8+n]) {
				t.Fatalf("P7.7: Build keeps what is handed in")
			}
			fill(b[:cap(b)])
			if !bytes.Equal(store, make([]byte, 64)) || !bytes.Equal(other[8:], was[8:8+n]) {
				t.Fatalf("P7.7: what Build tells is not new")
			}
			checkParsedShared(t, two, other)
		}
	}
}

// checkParsedShared hands bytes to Parse that have room before and behind them.
func checkParsedShared(t *testing.T, two [2]api.Addr, whole []byte) {
	t.Helper()
	store := bytes.Repeat([]byte{0x55}, len(whole)+32)
	copy(store[16:], whole)
	was := bytes.Clone(store)
	d, e := Parse(two[0], two[1], store[16:16+len(whole)])
	other, _ := Parse(two[0], two[1], store[16:16+len(whole)])
	if e != api.OK || !bytes.Equal(store, was) {
		t.Fatalf("P7.7: Parse changes what is handed in, %d", e)
	}
	clear(store)
	if !bytes.Equal(d.Data, whole[8:]) {
		t.Fatalf("P7.7: Parse keeps what is handed in")
	}
	fill(d.Data[:cap(d.Data)])
	if !bytes.Equal(store, make([]byte, len(store))) || !bytes.Equal(other.Data, whole[8:]) {
		t.Fatalf("P7.7: what Parse tells is not new")
	}
}

func fill(b []byte) {
	for i := range b {
		b[i] = 0xee
	}
}
