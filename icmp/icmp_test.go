package icmp

import (
	"bytes"
	"math"
	"testing"

	"mosaic/api"
)

// source is a plain generator, so that every run sees the same inputs.
type source uint64

func (s *source) next() uint64 {
	*s ^= *s << 13
	*s ^= *s >> 7
	*s ^= *s << 17
	return uint64(*s)
}

func (s *source) below(n int) int { return int((s.next() >> 11) % uint64(n)) }

func (s *source) chance() bool { return s.below(2) == 0 }

// bytes are often many equal ones, 00 or ff.
func (s *source) bytes(n int) []byte {
	b := make([]byte, n)
	fill := s.below(4)
	for i := range b {
		b[i] = [4]byte{byte(s.next() >> 30), byte(s.next() >> 30), 0, 255}[fill]
	}
	return b
}

func (s *source) address(v int) api.Addr {
	a := api.Addr{V: v, B: [16]byte(s.bytes(16))}
	if v == 4 {
		clear(a.B[4:])
	}
	return a
}

func (s *source) octet() int { return []int{0, 1, 255, s.below(256)}[s.below(4)] }

// message is one that may be built.
func (s *source) message(v int) api.Message {
	rest := []uint32{0, 1, 65535, 65536, math.MaxUint32, uint32(s.next() >> 20)}[s.below(6)]
	return api.Message{V: v, Type: s.octet(), Code: s.octet(), Rest: rest, Body: s.bytes([]int{0, 1, 2, 3, s.below(64)}[s.below(5)])}
}

func four(last byte) api.Addr { return api.Addr{V: 4, B: [16]byte{10, 0, 0, last}} }

func six(last byte) api.Addr { return api.Addr{V: 6, B: [16]byte{0x20, 1, 0x0d, 0xb8, 15: last}} }

// ends are two addresses of one version each.
func ends() [][2]api.Addr { return [][2]api.Addr{{four(1), four(2)}, {six(1), six(2)}} }

// size is how many bytes an address has; 0: it is none.
func size(a api.Addr) int {
	if a.V == 6 {
		return 16
	}
	for i, x := range a.B {
		if a.V != 4 || i >= 4 && x != 0 {
			return 0
		}
	}
	return 4
}

func fit(src, dst api.Addr) bool { return size(src) > 0 && size(src) == size(dst) }

// ring is the one's complement sum of bytes, the carry brought round at every word.
func ring(b []byte) int {
	n := 0
	for i, x := range b {
		if i%2 == 0 {
			n += int(x) * 256
		} else {
			n += int(x)
		}
		if n > 65535 {
			n -= 65535
		}
	}
	return n
}

// sumOf is the chapter's checksum of a message's bytes, whatever stands in its place.
func sumOf(src, dst api.Addr, b []byte) int {
	var all []byte
	if src.V == 6 {
		all = append(all, src.B[:]...)
		all = append(all, dst.B[:]...)
		all = append(all, 0, 0, byte(len(b)/256), byte(len(b)%256), 0, 0, 0, 58)
	}
	all = append(all, put(b, 2, 0, 0)...)
	return 65535 - ring(all)
}

// greatest is the chapter's greatest length of a message.
func greatest(v int) int { return map[int]int{4: 65515, 6: 65535}[v] }

// laid is the chapter's Build.
func laid(src, dst api.Addr, m api.Message) ([]byte, api.Errno) {
	if m.V != 4 && m.V != 6 || !fit(src, dst) || src.V != m.V || uint64(m.Type) > 255 || uint64(m.Code) > 255 {
		return nil, api.ErrArg
	}
	if len(m.Body)+8 > greatest(m.V) {
		return nil, api.ErrLong
	}
	b := append([]byte{byte(m.Type), byte(m.Code), 0, 0, byte(m.Rest >> 24), byte(m.Rest >> 16), byte(m.Rest >> 8), byte(m.Rest)}, m.Body...)
	return resummed(src, dst, b), api.OK
}

// judged is the chapter's list of Parse's errors, in its order.
func judged(src, dst api.Addr, b []byte) api.Errno {
	if !fit(src, dst) {
		return api.ErrArg
	}
	if len(b) < 8 {
		return api.ErrShort
	}
	if len(b) > greatest(src.V) {
		return api.ErrLong
	}
	if int(b[2])*256+int(b[3]) != sumOf(src, dst, b) {
		return api.ErrSum
	}
	return api.OK
}

func same(m, n api.Message) bool {
	return m.V == n.V && m.Type == n.Type && m.Code == n.Code && m.Rest == n.Rest && bytes.Equal(m.Body, n.Body)
}

func nothing(m api.Message) bool { return same(m, api.Message{}) }

// put is b with other bytes from a place on.
func put(b []byte, at int, v ...byte) []byte {
	b = bytes.Clone(b)
	copy(b[at:], v)
	return b
}

// resummed is b with its own checksum.
func resummed(src, dst api.Addr, b []byte) []byte {
	s := sumOf(src, dst, b)
	return put(b, 2, byte(s>>8), byte(s))
}

func front(b []byte) []byte { return b[:min(len(b), 64)] }

func checkBuild(t *testing.T, src, dst api.Addr, m api.Message) {
	t.Helper()
	want, code := laid(src, dst, m)
	b, e := Build(src, dst, m)
	if !bytes.Equal(b, want) || e != code {
		t.Fatalf("P8.1: Build(%v, %v, %d, %d, %d, %d, %d bytes): % x, %d, want % x, %d", src, dst, m.V, m.Type, m.Code, m.Rest, len(m.Body), front(b), e, front(want), code)
	}
	if e != api.OK {
		return
	}
	if back, e := Parse(src, dst, b); !same(back, m) || e != api.OK {
		t.Fatalf("P8.2: Parse of Build(%d, %d, %d, %d, %d bytes): %d, %d, %d, %d, %d bytes, %d", m.V, m.Type, m.Code, m.Rest, len(m.Body), back.V, back.Type, back.Code, back.Rest, len(back.Body), e)
	}
}

func checkParse(t *testing.T, src, dst api.Addr, b []byte) {
	t.Helper()
	want := judged(src, dst, b)
	m, e := Parse(src, dst, b)
	if e != want {
		t.Fatalf("P8.1: Parse(%v, %v, %d bytes, % x): %d, want %d", src, dst, len(b), front(b), e, want)
	}
	if e != api.OK {
		if !nothing(m) {
			t.Fatalf("P8.1: Parse tells %d, %d, %d, %d, %d bytes beside error %d", m.V, m.Type, m.Code, m.Rest, len(m.Body), e)
		}
		return
	}
	rest := uint32(b[4])*(1<<24) + uint32(b[5])*(1<<16) + uint32(b[6])*(1<<8) + uint32(b[7])
	if !same(m, api.Message{V: src.V, Type: int(b[0]), Code: int(b[1]), Rest: rest, Body: b[8:]}) {
		t.Fatalf("P8.1: Parse of % x: %d, %d, %d, %d, % x", front(b), m.V, m.Type, m.Code, m.Rest, front(m.Body))
	}
	if again, e := Build(src, dst, m); !bytes.Equal(again, b) || e != api.OK {
		t.Fatalf("P8.2: Build of Parse of % x: % x, %d", front(b), front(again), e)
	}
}

func echo() api.Message { return api.Message{V: 4, Type: 8, Rest: 65538, Body: []byte("ab")} }

func echoBytes() []byte { return []byte{8, 0, 0x96, 0x9a, 0, 1, 0, 2, 0x61, 0x62} }

func TestExampleBuild(t *testing.T) {
	for i, c := range []struct {
		src, dst api.Addr
		m        api.Message
		want     []byte
		e        api.Errno
	}{
		{four(1), four(2), echo(), echoBytes(), api.OK},
		// The addresses do not count in version 4, but must be some.
		{four(7), api.Addr{V: 4}, echo(), echoBytes(), api.OK},
		{six(1), six(2), echo(), nil, api.ErrArg},
		{four(1), six(2), echo(), nil, api.ErrArg},
		{six(1), four(2), echo(), nil, api.ErrArg},
		{api.Addr{}, four(2), echo(), nil, api.ErrArg},
		{four(1), api.Addr{}, echo(), nil, api.ErrArg},
		{four(1), four(2), api.Message{V: 4}, []byte{0, 0, 255, 255, 0, 0, 0, 0}, api.OK},
		// A sum of ones: the checksum is 0, in both versions.
		{four(1), four(2), api.Message{V: 4, Rest: 65535}, []byte{0, 0, 0, 0, 0, 0, 255, 255}, api.OK},
		// 2001 + 0db8 + 0001 + 2001 + 0db8 + 0002 + 0008 + 003a = 5bb7.
		{six(1), six(2), api.Message{V: 6}, []byte{0, 0, 0xa4, 0x48, 0, 0, 0, 0}, api.OK},
		{six(1), six(2), api.Message{V: 6, Rest: 0xa448}, []byte{0, 0, 0, 0, 0, 0, 0xa4, 0x48}, api.OK},
		// 5bb8 and 8001, 0102 0304, 6100: one byte is the high half of a word.
		{six(1), six(2), api.Message{V: 6, Type: 128, Code: 1, Rest: 0x01020304, Body: []byte("a")}, []byte{128, 1, 0xbf, 0x3f, 1, 2, 3, 4, 0x61}, api.OK},
		{four(1), four(2), api.Message{V: 4, Type: 255, Code: 255, Rest: math.MaxUint32}, []byte{255, 255, 0, 0, 255, 255, 255, 255}, api.OK},
	} {
		if b, e := Build(c.src, c.dst, c.m); !bytes.Equal(b, c.want) || e != c.e {
			t.Errorf("P8.1: row %d: % x, %d, want % x, %d", i, b, e, c.want, c.e)
		}
		checkBuild(t, c.src, c.dst, c.m)
	}
}

func TestExampleParse(t *testing.T) {
	for i, c := range []struct {
		src, dst api.Addr
		b        []byte
		e        api.Errno
	}{
		{four(1), four(2), echoBytes(), api.OK},
		{four(9), four(9), echoBytes(), api.OK},
		{four(1), four(2), echoBytes()[:9], api.ErrSum},
		{four(1), four(2), echoBytes()[:7], api.ErrShort},
		{four(1), four(2), nil, api.ErrShort},
		{six(1), six(2), echoBytes(), api.ErrSum},
		{four(1), six(2), echoBytes(), api.ErrArg},
		{six(1), four(2), nil, api.ErrArg},
		// ffff does not stand for 0, nor 0 for ffff.
		{four(1), four(2), make([]byte, 8), api.ErrSum},
		{four(1), four(2), []byte{0, 0, 255, 255, 0, 0, 255, 255}, api.ErrSum},
	} {
		m, e := Parse(c.src, c.dst, c.b)
		if e != c.e {
			t.Errorf("P8.1: row %d: %d, want %d", i, e, c.e)
		}
		if e == api.OK && !same(m, echo()) || e != api.OK && !nothing(m) {
			t.Errorf("P8.1: row %d: %v", i, m)
		}
		checkParse(t, c.src, c.dst, c.b)
	}
}

// numbers are edges of every field, and beyond them.
var numbers = []int{
	0, 1, 2, 3, 4, 5, 6, 7, 8, 10, 11, 12, 13, 58, 127, 128, 129, 254, 255, 256, 257, 260, 511, 512, 32767, 32768, 65534, 65535, 65536, 65537, 65540, 131071, 1<<31 - 1, 1 << 31, 1<<32 - 1, 1 << 32, 1<<32 + 4, 1<<32 + 11, 1 << 62, math.MaxInt - 1, math.MaxInt,
	-1, -2, -4, -6, -8, -128, -253, -255, -256, -65535, -65536, -1 << 32, math.MinInt, math.MinInt + 1, math.MinInt + 4, math.MinInt + 11,
}

func TestNumbersAtTheirEdges(t *testing.T) {
	for _, two := range ends() {
		for _, n := range numbers {
			checkBuild(t, two[0], two[1], api.Message{V: n, Type: 8, Body: []byte{1}})
			for _, m := range numbers {
				checkBuild(t, two[0], two[1], api.Message{V: two[0].V, Type: n, Code: m, Body: []byte{1}})
			}
		}
	}
}

// strange are pairs that are not two addresses of one version.
func strange() [][2]api.Addr {
	out := [][2]api.Addr{{four(1), six(2)}, {six(1), four(2)}, {{}, {}}, {{V: 5}, {V: 5}}, {{V: 4}, {V: 6}}, {{V: 6}, {V: 4}}}
	for _, v := range numbers {
		if v == 4 || v == 6 {
			continue
		}
		for _, a := range []api.Addr{four(1), six(1)} {
			b := a
			b.V = v
			out = append(out, [2]api.Addr{a, b}, [2]api.Addr{b, a}, [2]api.Addr{b, b})
		}
	}
	for at := 4; at < 16; at++ {
		a := four(1)
		a.B[at] = 1
		out = append(out, [2]api.Addr{a, four(2)}, [2]api.Addr{four(2), a}, [2]api.Addr{a, a})
	}
	return out
}

// TestWrongAddresses: they are ErrArg ahead of all else.
func TestWrongAddresses(t *testing.T) {
	long := make([]byte, 65536)
	for _, two := range strange() {
		if fit(two[0], two[1]) {
			t.Fatalf("%v fit", two)
		}
		for _, v := range []int{4, 6, two[0].V, two[1].V} {
			for _, m := range []api.Message{{V: v}, {V: v, Type: -1}, {V: v, Body: long}} {
				if b, e := Build(two[0], two[1], m); e != api.ErrArg || len(b) > 0 {
					t.Fatalf("P8.1: Build(%v, %v, V %d): %d bytes, %d, want %d", two[0], two[1], v, len(b), e, api.ErrArg)
				}
			}
		}
		for _, b := range [][]byte{nil, echoBytes()[:7], echoBytes(), put(echoBytes(), 9, 0), long} {
			if m, e := Parse(two[0], two[1], b); e != api.ErrArg || !nothing(m) {
				t.Fatalf("P8.1: Parse(%v, %v, %d bytes): %d, want %d", two[0], two[1], len(b), e, api.ErrArg)
			}
		}
	}
	// Addresses of one version, and a message of the other.
	for i, two := range ends() {
		other := ends()[1-i][0].V
		if b, e := Build(two[0], two[1], api.Message{V: other}); e != api.ErrArg || len(b) > 0 {
			t.Errorf("P8.1: V %d between addresses of version %d: %d", other, two[0].V, e)
		}
	}
}

// TestAddressesCount: every byte of both addresses is in the sum of version 6, none in that of version 4.
func TestAddressesCount(t *testing.T) {
	for _, two := range ends() {
		m := echo()
		m.V = two[0].V
		b, _ := Build(two[0], two[1], m)
		for at := range size(two[0]) {
			for which := range two {
				other := two
				other[which].B[at] ^= 0x5a
				checkBuild(t, other[0], other[1], m)
				want := map[int]api.Errno{4: api.OK, 6: api.ErrSum}[m.V]
				if _, e := Parse(other[0], other[1], b); e != want {
					t.Fatalf("P8.1: version %d with another byte %d of address %d: %d, want %d", m.V, at, which, e, want)
				}
			}
		}
	}
}

func TestLengths(t *testing.T) {
	s := source(8)
	for _, two := range ends() {
		v := two[0].V
		for _, n := range []int{8, 9, 10, 11, 65514, 65515, 65516, 65517, 65534, 65535, 65536, 65537, 65544, 131072} {
			m := api.Message{V: v, Type: 8, Rest: 5, Body: s.bytes(n - 8)}
			checkBuild(t, two[0], two[1], m)
			b, e := Build(two[0], two[1], m)
			want := api.OK
			if v == 4 && n > 65515 || v == 6 && n > 65535 {
				want = api.ErrLong
			}
			if e != want || e == api.OK && len(b) != n || e != api.OK && len(b) > 0 {
				t.Fatalf("P8.1: %d bytes of version %d: %d bytes, %d, want %d", n, v, len(b), e, want)
			}
			m.Code = 256
			if b, e := Build(two[0], two[1], m); e != api.ErrArg || len(b) > 0 {
				t.Fatalf("P8.1: a wrong code ahead of %d bytes: %d", n, e)
			}
			whole := resummed(two[0], two[1], s.bytes(n))
			checkParse(t, two[0], two[1], whole)
			checkParse(t, two[0], two[1], put(whole, 2, whole[2]^1))
			if _, e := Parse(two[0], two[1], whole); e != want {
				t.Fatalf("P8.1: Parse of %d bytes of version %d: %d, want %d", n, v, e, want)
			}
		}
		for n := range 8 {
			checkParse(t, two[0], two[1], make([]byte, n))
			if m, e := Parse(two[0], two[1], bytes.Repeat([]byte{255}, n)); e != api.ErrShort || !nothing(m) {
				t.Fatalf("P8.1: %d bytes: %d", n, e)
			}
		}
	}
}

func TestNilAndEmpty(t *testing.T) {
	for _, two := range ends() {
		a, e := Build(two[0], two[1], api.Message{V: two[0].V, Type: 1})
		b, f := Build(two[0], two[1], api.Message{V: two[0].V, Type: 1, Body: []byte{}})
		if !bytes.Equal(a, b) || len(a) != 8 || e != api.OK || f != api.OK {
			t.Errorf("P8.1: no body: % x, %d; % x, %d", a, e, b, f)
		}
		for _, none := range [][]byte{nil, {}} {
			if m, e := Parse(two[0], two[1], none); e != api.ErrShort || !nothing(m) {
				t.Errorf("P8.1: no bytes: %d", e)
			}
		}
	}
}

// TestEveryChecksum: just one number is taken, of sums that come out 0 and ffff too.
func TestEveryChecksum(t *testing.T) {
	for _, two := range ends() {
		v := two[0].V
		for _, m := range []api.Message{{V: v, Type: 8, Rest: 65538, Body: []byte("ab")}, {V: v}, {V: v, Rest: 65535}, {V: v, Rest: 0xa448}, {V: v, Type: 1, Body: []byte{1, 2, 3}}} {
			good, _ := Build(two[0], two[1], m)
			taken := 0
			for n := range 65536 {
				b := put(good, 2, byte(n>>8), byte(n))
				got, e := Parse(two[0], two[1], b)
				switch {
				case e == api.OK && same(got, m) && bytes.Equal(b, good):
					taken++
				case e != api.ErrSum || !nothing(got):
					t.Fatalf("P8.1: the checksum %04x of version %d: %d", n, v, e)
				}
			}
			if taken != 1 {
				t.Errorf("P8.1: %d checksums are taken", taken)
			}
		}
	}
}

// TestEverySum goes through all words of Rest, so that every checksum is laid.
func TestEverySum(t *testing.T) {
	for _, two := range ends() {
		for n := range uint32(65536) {
			checkBuild(t, two[0], two[1], api.Message{V: two[0].V, Rest: n, Body: []byte{byte(n)}})
			checkBuild(t, two[0], two[1], api.Message{V: two[0].V, Rest: n << 16})
		}
	}
}

// TestOneBit: P8.4.
func TestOneBit(t *testing.T) {
	s := source(88)
	for _, two := range ends() {
		v := two[0].V
		some := []api.Message{{V: v}, {V: v, Rest: 65535}, {V: v, Rest: 0xa448}, {V: v, Type: 255, Code: 255, Rest: math.MaxUint32, Body: bytes.Repeat([]byte{255}, 9)}, {V: v, Body: make([]byte, 1300)}}
		for range 200 {
			some = append(some, s.message(v))
		}
		for _, m := range some {
			whole, _ := Build(two[0], two[1], m)
			for at := range whole {
				for bit := range 8 {
					b := put(whole, at, whole[at]^1<<bit)
					if n, e := Parse(two[0], two[1], b); e != api.ErrSum || !nothing(n) {
						t.Fatalf("P8.4: % x with the bit %d of byte %d changed: %d", front(whole), bit, at, e)
					}
				}
			}
		}
	}
}

// TestTwoWords: two words exchanged have the same sum and are taken: the sum says no more than it is.
func TestTwoWords(t *testing.T) {
	for _, two := range ends() {
		b, _ := Build(two[0], two[1], api.Message{V: two[0].V, Type: 1, Code: 2, Rest: 0x00030004, Body: []byte{0, 5}})
		for _, c := range [][]byte{put(b, 4, 0, 4, 0, 3), put(b, 4, 0, 3, 0, 5, 0, 4), put(b, 0, 0, 5, b[2], b[3], 0, 3, 0, 4, 1, 2)} {
			checkParse(t, two[0], two[1], c)
			if _, e := Parse(two[0], two[1], c); e != api.OK {
				t.Errorf("P8.1: the same sum of other words: %d", e)
			}
		}
	}
}

func TestRandomMessages(t *testing.T) {
	s := source(888)
	for range 20000 {
		v := 4 + 2*s.below(2)
		src, dst, m := s.address(v), s.address(v), s.message(v)
		b, e := Build(src, dst, m)
		if e != api.OK {
			t.Fatalf("P8.1: Build(%v, %v, %v): %d", src, dst, m, e)
		}
		checkBuild(t, src, dst, m)
		checkParse(t, src, dst, b)
		for range s.below(4) {
			b[s.below(len(b))] = byte(s.next() >> 30)
		}
		checkParse(t, src, dst, b)
		checkParse(t, src, dst, b[:s.below(len(b)+1)])
	}
}

func TestRandomBytes(t *testing.T) {
	s := source(8888)
	taken := 0
	for range 40000 {
		v := 4 + 2*s.below(2)
		src, dst := s.address(v), s.address(v)
		b := s.bytes(s.below(40))
		if len(b) >= 8 && s.chance() {
			b = resummed(src, dst, b)
		}
		checkParse(t, src, dst, b)
		if _, e := Parse(src, dst, b); e == api.OK {
			taken++
		}
	}
	if taken < 5000 || taken > 35000 {
		t.Errorf("%d of the random bytes are taken", taken)
	}
}

// TestIsError: every type of both versions, and what is no type or no version.
func TestIsError(t *testing.T) {
	for _, v := range append([]int{4, 6, 5}, numbers...) {
		for _, typ := range numbers {
			checkIsError(t, v, typ)
		}
		for typ := -300; typ <= 600; typ++ {
			checkIsError(t, v, typ)
		}
	}
	if IsError(api.Message{V: 4, Type: 8}) || IsError(api.Message{V: 6, Type: 128}) || !IsError(api.Message{V: 6, Type: 2}) || IsError(api.Message{V: 5, Type: 3}) {
		t.Errorf("P8.1: example 5")
	}
}

func checkIsError(t *testing.T, v, typ int) {
	t.Helper()
	want := false
	switch v {
	case 4:
		for _, n := range []int{3, 4, 5, 11, 12} {
			want = want || typ == n
		}
	case 6:
		want = typ >= 0 && typ < 128
	}
	// Code, Rest and Body do not count.
	for _, m := range []api.Message{{V: v, Type: typ}, {V: v, Type: typ, Code: 256, Rest: 7, Body: []byte{1}}} {
		if IsError(m) != want {
			t.Fatalf("P8.1: IsError of V %d, Type %d is %v", v, typ, !want)
		}
	}
}

// TestNothingShared: what Build and Parse are given, with the room around it, and what they tell.
func TestNothingShared(t *testing.T) {
	for _, two := range ends() {
		for n := range 20 {
			store := bytes.Repeat([]byte{0x77}, 64)
			was := bytes.Clone(store)
			m := api.Message{V: two[0].V, Type: 1, Body: store[8 : 8+n]}
			b, _ := Build(two[0], two[1], m)
			other, _ := Build(two[0], two[1], m)
			if !bytes.Equal(store, was) {
				t.Fatalf("P8.1: Build changes what is handed in")
			}
			clear(store)
			if !bytes.Equal(b[8:], was[8:8+n]) {
				t.Fatalf("P8.1: Build keeps what is handed in")
			}
			fill(b[:cap(b)])
			if !bytes.Equal(store, make([]byte, 64)) || !bytes.Equal(other[8:], was[8:8+n]) {
				t.Fatalf("P8.1: what Build tells is not new")
			}
			checkParsedShared(t, two, other)
		}
	}
}

func checkParsedShared(t *testing.T, two [2]api.Addr, whole []byte) {
	t.Helper()
	store, given := among(whole)
	was := bytes.Clone(store)
	m, e := Parse(two[0], two[1], given)
	other, _ := Parse(two[0], two[1], given)
	if e != api.OK || !bytes.Equal(store, was) {
		t.Fatalf("P8.1: Parse changes what is handed in, %d", e)
	}
	clear(store)
	if !bytes.Equal(m.Body, whole[8:]) {
		t.Fatalf("P8.1: Parse keeps what is handed in")
	}
	fill(m.Body[:cap(m.Body)])
	if !bytes.Equal(store, make([]byte, len(store))) || !bytes.Equal(other.Body, whole[8:]) {
		t.Fatalf("P8.1: what Parse tells is not new")
	}
}

// among is a copy of b with room ahead of it and behind it, and all of that room.
func among(b []byte) (store, given []byte) {
	store = bytes.Repeat([]byte{0x55}, len(b)+32)
	copy(store[16:], b)
	return store, store[16 : 16+len(b)]
}

func fill(b []byte) {
	for i := range b {
		b[i] = 0xee
	}
}
