package cut

import (
	"bytes"
	"math"
	"strconv"
	"testing"

	"mosaic/api"
)

// source is a generator of its own, so that every run asks the same.
type source uint64

func (s *source) next() uint64 {
	*s ^= *s << 13
	*s ^= *s >> 7
	*s ^= *s << 17
	return uint64(*s)
}

func (s *source) below(n int) int { return int((s.next() >> 11) % uint64(n)) }

func (s *source) chance() bool { return s.below(2) == 0 }

func (s *source) bytes(n int) []byte {
	b := make([]byte, n)
	for i := range b {
		b[i] = byte(s.next() >> 20)
	}
	return b
}

func fill(n int) []byte {
	s := source(n + 1)
	return s.bytes(n)
}

func four(n int, options ...byte) api.Packet {
	return api.Packet{V: 4, TOS: 3, Src: api.Addr{V: 4, B: [16]byte{10, 0, 0, 1}}, Dst: api.Addr{V: 4, B: [16]byte{10, 0, 0, 2}},
		Proto: 17, TTL: 64, ID: 7, Opts: options, Data: fill(n)}
}

func six(n int) api.Packet {
	return api.Packet{V: 6, TOS: 3, Flow: 77, Src: api.Addr{V: 6, B: [16]byte{0x20, 1, 15: 1}}, Dst: api.Addr{V: 6, B: [16]byte{0x20, 1, 15: 2}},
		Proto: 17, TTL: 64, Data: fill(n)}
}

// alert's first option is carried, the four behind it are not; of options the second and the fourth are.
func alert() []byte   { return []byte{0x94, 4, 0, 0, 1, 1, 1, 1} }
func options() []byte { return []byte{7, 3, 9, 0x83, 3, 4, 0x44, 2, 0xff, 5, 1, 2, 3, 0, 0, 0} }

// lists of options that may be, each with what is carried of it.
func optionLists() [][2][]byte {
	return [][2][]byte{
		{nil, nil},
		{alert(), {0x94, 4, 0, 0}},
		{options(), {0x83, 3, 4, 0xff, 5, 1, 2, 3}},
		{{1, 1, 1, 1}, nil},
		{{0, 0, 0, 0}, nil},
		{{0x94, 4, 0, 0, 0, 0, 0, 0}, {0x94, 4, 0, 0}},
		{bytes.Repeat([]byte{1}, 40), nil},
		{bytes.Repeat([]byte{0x94, 4, 5, 6}, 10), bytes.Repeat([]byte{0x94, 4, 5, 6}, 10)},
	}
}

// The model: what the chapter and DOC.md say, written down without the layers below.

// carried is what later fragments have of the options; false: they are none.
func carried(b []byte) ([]byte, bool) {
	if len(b) > 40 || len(b)%4 != 0 {
		return nil, false
	}
	var out []byte
	for len(b) > 0 && b[0] != 0 {
		n := 1
		if b[0] != 1 {
			if len(b) < 2 || b[1] < 2 || int(b[1]) > len(b) {
				return nil, false
			}
			n = int(b[1])
		}
		if b[0] > 127 {
			out = append(out, b[:n]...)
		}
		b = b[n:]
	}
	if len(bytes.Trim(b, "\x00")) > 0 {
		return nil, false
	}
	for len(out)%4 != 0 {
		out = append(out, 0)
	}
	return out, true
}

func octets(l ...int) bool {
	for _, n := range l {
		if n < 0 || n > 255 {
			return false
		}
	}
	return true
}

func ends(v int, l ...api.Addr) bool {
	for _, a := range l {
		if a.V != v || v == 4 && [12]byte(a.B[4:]) != [12]byte{} {
			return false
		}
	}
	return true
}

// long is how many bytes a packet has; 0: it is not right.
func long(p api.Packet) int {
	n := len(p.Data)
	if p.V != 4 && p.V != 6 || !octets(p.TOS, p.Proto, p.TTL) || !ends(p.V, p.Src, p.Dst) {
		return 0
	}
	if p.Off < 0 || p.Off > 65535 || p.Off%8 != 0 || p.Off+n > 65535 || p.More && n%8 != 0 || (p.More || p.Off > 0) && n == 0 {
		return 0
	}
	if p.V == 4 {
		_, ok := carried(p.Opts)
		if !ok || p.Flow != 0 || p.ID > 65535 || p.Frag || 20+len(p.Opts)+n > 65535 {
			return 0
		}
		return 20 + len(p.Opts) + n
	}
	if p.DF || len(p.Opts) > 0 || p.Flow < 0 || p.Flow >= 1<<20 || p.Proto == 44 {
		return 0
	}
	if p.Frag {
		if n+8 > 65535 {
			return 0
		}
		return 48 + n
	}
	if p.ID != 0 || p.Off != 0 || p.More || n > 65535 {
		return 0
	}
	return 40 + n
}

func whole(p api.Packet) bool { return long(p) > 0 && p.Off == 0 && !p.More && !p.Frag }

func linked(v, mtu int) bool { return mtu <= 65535 && (v == 4 && mtu >= 68 || v == 6 && mtu >= 1280) }

func same(p, q api.Packet) bool {
	if !bytes.Equal(p.Opts, q.Opts) || !bytes.Equal(p.Data, q.Data) || p.Src != q.Src || p.Dst != q.Dst {
		return false
	}
	if p.V != q.V || p.TOS != q.TOS || p.Flow != q.Flow || p.Proto != q.Proto || p.TTL != q.TTL || p.ID != q.ID {
		return false
	}
	return p.DF == q.DF && p.More == q.More && p.Frag == q.Frag && p.Off == q.Off
}

// is is the chapter's words, one condition behind the other.
func is(p api.Packet, mtu int, l []api.Packet) bool {
	if !whole(p) || !linked(p.V, mtu) || len(l) == 0 {
		return false
	}
	for _, q := range l {
		if long(q) == 0 || long(q) > mtu {
			return false
		}
	}
	if len(l) == 1 {
		return same(p, l[0])
	}
	if p.DF {
		return false
	}
	var all []byte
	for i, q := range l {
		if q.Off != len(all) || q.More != (i < len(l)-1) {
			return false
		}
		all = append(all, q.Data...)
		if q.TOS != p.TOS || q.Src != p.Src || q.Dst != p.Dst || q.Proto != p.Proto || q.TTL != p.TTL {
			return false
		}
		if p.V == 6 && (!q.Frag || q.ID != l[0].ID || q.Flow != p.Flow) {
			return false
		}
		later, _ := carried(p.Opts)
		if i == 0 {
			later = p.Opts
		}
		if p.V == 4 && (q.Frag || q.DF || q.ID != p.ID || !bytes.Equal(q.Opts, later)) {
			return false
		}
	}
	return bytes.Equal(all, p.Data)
}

// parts lays the pieces of these sizes that a fragmentation has.
func parts(p api.Packet, id uint32, sizes ...int) []api.Packet {
	var l []api.Packet
	at := 0
	for i, n := range sizes {
		q := p
		q.Off, q.More, q.Data, q.Opts = at, i < len(sizes)-1, bytes.Clone(p.Data[at:at+n]), bytes.Clone(p.Opts)
		if p.V == 6 && len(sizes) > 1 {
			q.Frag, q.ID = true, id
		}
		if i > 0 {
			q.Opts, _ = carried(p.Opts)
		}
		l = append(l, q)
		at += n
	}
	return l
}

// sizes are those of the source's pieces of a packet that is longer than mtu: found by counting down from what is left.
func sizes(p api.Packet, mtu int) []int {
	var l []int
	for left := len(p.Data); left > 0; {
		q := p
		q.Frag = p.V == 6
		if len(l) > 0 {
			q.Opts, _ = carried(p.Opts)
		}
		q.Data = nil
		head := long(q)
		n := left
		// Version 6: the last piece as well is no longer than the greatest multiple of 8.
		for head+n > mtu || p.V == 6 && head+(n+7)/8*8 > mtu || n != left && n%8 != 0 {
			n--
		}
		l = append(l, n)
		left -= n
	}
	return l
}

// wanted is what Cut should answer.
func wanted(p api.Packet, mtu int, id uint32) ([]api.Packet, api.Errno) {
	switch {
	case !whole(p) || !linked(p.V, mtu):
		return nil, api.ErrArg
	case long(p) <= mtu:
		return []api.Packet{p}, api.OK
	case p.DF:
		return nil, api.ErrBig
	}
	return parts(p, id, sizes(p, mtu)...), api.OK
}

func alike(l, k []api.Packet) bool {
	if len(l) != len(k) {
		return false
	}
	for i := range l {
		if !same(l[i], k[i]) {
			return false
		}
	}
	return true
}

func lengths(l []api.Packet) []int {
	var n []int
	for _, p := range l[:min(len(l), 30)] {
		n = append(n, len(p.Data))
	}
	return n
}

// checkCut holds an answer of Cut against the model and the promises.
func checkCut(t *testing.T, what string, p api.Packet, mtu int, id uint32) []api.Packet {
	t.Helper()
	got, e := Cut(p, mtu, id)
	want, code := wanted(p, mtu, id)
	if e != code || !alike(got, want) {
		t.Fatalf("P10.1: %s: %d bytes for %d: %v, %d, wanted %v, %d", what, long(p), mtu, lengths(got), e, lengths(want), code)
	}
	if e != api.OK {
		return nil
	}
	if !is(p, mtu, got) || !Is(p, mtu, got) {
		t.Fatalf("P10.2: %s: %d bytes for %d: no fragmentation: %v", what, long(p), mtu, lengths(got))
	}
	for i, q := range got {
		if long(q) > mtu || i > 0 && p.V == 6 && long(q) > long(got[0]) {
			t.Fatalf("P10.2: %s: %d bytes for %d: the %d-th is too long: %d", what, long(p), mtu, i, long(q))
		}
		if i < len(got)-1 && long(q)+8 <= mtu {
			t.Fatalf("P10.3: %s: %d bytes for %d: 8 more would fit into the %d-th: %d", what, long(p), mtu, i, long(q))
		}
	}
	return got
}

func checkIs(t *testing.T, what string, p api.Packet, mtu int, l []api.Packet) {
	t.Helper()
	if got, want := Is(p, mtu, l), is(p, mtu, l); got != want {
		t.Fatalf("P10.1: %s: Is of %d bytes for %d, %v: %v", what, long(p), mtu, lengths(l), got)
	}
}

func cutsInto(t *testing.T, what string, p api.Packet, mtu int, id uint32, sizes ...int) {
	t.Helper()
	got := checkCut(t, what, p, mtu, id)
	if !alike(got, parts(p, id, sizes...)) {
		t.Errorf("P10.1: %s for %d: %v, wanted %v", what, mtu, lengths(got), sizes)
	}
}

func refuses(t *testing.T, what string, p api.Packet, mtu int, want api.Errno) {
	t.Helper()
	if got, e := Cut(p, mtu, 5); e != want || len(got) != 0 {
		t.Errorf("P10.1: %s for %d: %v, %d, wanted %d", what, mtu, lengths(got), e, want)
	}
}

func times(n, size int) []int {
	var l []int
	for range n {
		l = append(l, size)
	}
	return l
}

func TestExamples(t *testing.T) {
	p := four(1000)
	cutsInto(t, "example 1", p, 1020, 0, 1000)
	cutsInto(t, "example 1", p, 1019, 0, 992, 8)
	cutsInto(t, "example 1", p, 68, 0, append(times(20, 48), 40)...)
	p.DF = true
	cutsInto(t, "example 2", p, 1020, 0, 1000)
	refuses(t, "example 2", p, 1019, api.ErrBig)
	refuses(t, "example 2", p, 67, api.ErrArg)

	o := four(1000, alert()...)
	l := checkCut(t, "example 3", o, 100, 0)
	if len(l) != 14 || !bytes.Equal(l[0].Opts, alert()) || len(l[0].Data) != 72 {
		t.Fatalf("P10.1: example 3: %v", lengths(l))
	}
	for _, q := range l[1:13] {
		if !bytes.Equal(q.Opts, []byte{0x94, 4, 0, 0}) || len(q.Data) != 72 {
			t.Errorf("P10.1: example 3: % x, %d", q.Opts, len(q.Data))
		}
	}

	q := six(2000)
	cutsInto(t, "example 4", q, 2040, 9, 2000)
	cutsInto(t, "example 4", q, 2039, 9, 1984, 16)
	cutsInto(t, "example 4", q, 1280, 9, 1232, 768)
	cutsInto(t, "example 4", six(2471), 1287, 9, 1232, 1232, 7)
	refuses(t, "example 4", q, 1279, api.ErrArg)
	q.Frag = true
	refuses(t, "example 4: Frag", q, 1500, api.ErrArg)

	p.DF = false
	pieces, _ := Cut(p, 68, 0)
	if !Is(p, 68, pieces) || Is(p, 67, pieces) || Is(p, 1019, []api.Packet{p}) || !Is(p, 1500, parts(p, 0, 504, 496)) {
		t.Error("P10.1: example 5")
	}
}

func edges() []int {
	return []int{math.MinInt, math.MinInt + 20, -65536, -1280, -68, -1, 0, 1, 8, 20, 40, 48, 60, 67, 68, 69, 75, 76, 1279, 1280, 1281,
		1287, 1288, 1289, 65534, 65535, 65536, 65575, 1 << 32, 1<<32 + 1500, math.MaxInt - 20, math.MaxInt}
}

func TestEveryMTU(t *testing.T) {
	for _, mtu := range edges() {
		for _, n := range []int{0, 1, 8, 48, 49, 60, 1232, 1240, 1260, 3000} {
			for _, p := range []api.Packet{four(n), four(n, options()...), six(n)} {
				l := checkCut(t, "an MTU", p, mtu, 3)
				checkIs(t, "an MTU", p, mtu, l)
				checkIs(t, "alone", p, mtu, []api.Packet{p})
				p.DF = true
				checkCut(t, "DF", p, mtu, 3)
				checkIs(t, "DF alone", p, mtu, []api.Packet{p})
			}
		}
	}
}

func wrongs() map[string]func(*api.Packet) {
	set := map[string]func(*api.Packet){
		"zero": func(p *api.Packet) { *p = api.Packet{} }, "Frag": func(p *api.Packet) { p.Frag = true }, "DF": func(p *api.Packet) { p.DF = true },
		"More": func(p *api.Packet) { p.More = true }, "Off 8": func(p *api.Packet) { p.Off = 8 },
		"Off 8 and Frag": func(p *api.Packet) { p.Off, p.Frag = 8, true }, "More and Frag": func(p *api.Packet) { p.More, p.Frag = true, true },
		"ID 65535": func(p *api.Packet) { p.ID = 65535 }, "ID 65536": func(p *api.Packet) { p.ID = 65536 }, "ID": func(p *api.Packet) { p.ID = math.MaxUint32 },
		"Src of 4": func(p *api.Packet) { p.Src = four(0).Src }, "Dst of 6": func(p *api.Packet) { p.Dst = six(0).Dst }, "no Dst": func(p *api.Packet) { p.Dst = api.Addr{} },
		"Src with more bytes": func(p *api.Packet) { p.Src.B[4] = 1 }, "both of 6": func(p *api.Packet) { p.Src, p.Dst = six(0).Src, six(0).Dst },
		"no list": func(p *api.Packet) { p.Opts = []byte{7, 1, 1, 1} }, "44 bytes": func(p *api.Packet) { p.Opts = make([]byte, 44) },
		"one byte": func(p *api.Packet) { p.Opts = []byte{1} }, "four bytes": func(p *api.Packet) { p.Opts = []byte{1, 1, 1, 1} },
		"65515 bytes": func(p *api.Packet) { p.Data = fill(65515) }, "65516 bytes": func(p *api.Packet) { p.Data = fill(65516) },
		"65535 bytes": func(p *api.Packet) { p.Data = fill(65535) }, "65536 bytes": func(p *api.Packet) { p.Data = fill(65536) }, "no bytes": func(p *api.Packet) { p.Data = nil },
	}
	for what, field := range map[string]func(*api.Packet, int){
		"V": func(p *api.Packet, n int) { p.V = n }, "TOS": func(p *api.Packet, n int) { p.TOS = n }, "Flow": func(p *api.Packet, n int) { p.Flow = n },
		"Proto": func(p *api.Packet, n int) { p.Proto = n }, "TTL": func(p *api.Packet, n int) { p.TTL = n }, "Off": func(p *api.Packet, n int) { p.Off = n },
		"Src.V": func(p *api.Packet, n int) { p.Src.V = n }, "Dst.V": func(p *api.Packet, n int) { p.Dst.V = n },
	} {
		for _, n := range []int{math.MinInt, -8, -1, 0, 1, 4, 5, 6, 8, 43, 44, 45, 255, 256, 1<<20 - 1, 1 << 20, 65528, 65536, 1<<32 + 4, 1<<32 + 6, math.MaxInt - 7, math.MaxInt} {
			set[what+" "+strconv.Itoa(n)] = func(p *api.Packet) { field(p, n) }
		}
	}
	return set
}

func TestEveryField(t *testing.T) {
	for what, wrong := range wrongs() {
		for _, n := range []int{16, 100, 3000} {
			for _, base := range []api.Packet{four(n), four(n, alert()...), six(n)} {
				p := base
				wrong(&p)
				for _, mtu := range []int{67, 68, 1279, 1280, 1500, 65535, 65536} {
					l := checkCut(t, what, p, mtu, 9)
					checkIs(t, what, p, mtu, l)
					checkIs(t, what+", alone", p, mtu, []api.Packet{p})
					checkIs(t, what+", of another", p, mtu, []api.Packet{base})
					checkIs(t, what+", as one", base, mtu, []api.Packet{p})
					checkIs(t, what+", as two", base, mtu, []api.Packet{p, p})
				}
			}
		}
	}
}

func TestArgumentsComeAheadOfTheSize(t *testing.T) {
	p := four(3000)
	p.DF = true
	refuses(t, "DF", p, 1500, api.ErrBig)
	refuses(t, "DF, no MTU", p, 67, api.ErrArg)
	p.TTL = 256
	refuses(t, "DF, not right", p, 1500, api.ErrArg)
	p.TTL, p.More = 64, true
	refuses(t, "DF, more", p, 1500, api.ErrArg)
	p.More, p.Off = false, 8
	refuses(t, "DF, a fragment", p, 1500, api.ErrArg)
	refuses(t, "it fits, no MTU", six(8), 1279, api.ErrArg)
}

// fewest is the least number of pieces, by trying every way: of each offset in units of 8 what the pieces behind it need.
func fewest(p api.Packet, mtu int) int {
	later, _ := carried(p.Opts)
	first, other := 20+len(p.Opts), 20+len(later)
	if p.V == 6 {
		first, other = 48, 48
	}
	n := len(p.Data)
	behind := make([]int, n/8+1)
	for i := len(behind) - 1; i >= 0; i-- {
		head := other
		if i == 0 {
			head = first
		}
		behind[i] = math.MaxInt32
		// The last piece: in version 6 one that is no longer than a first one can be.
		if left := n - 8*i; left > 0 && i > 0 && (p.V == 4 && head+left <= mtu || p.V == 6 && head+(left+7)/8*8 <= mtu) {
			behind[i] = 1
		}
		for k := i + 1; k < len(behind) && head+8*(k-i) <= mtu; k++ {
			behind[i] = min(behind[i], 1+behind[k])
		}
	}
	return behind[0]
}

func TestFewestOfVersion4(t *testing.T) {
	for _, o := range optionLists() {
		for n := range 250 {
			for mtu := 68; mtu < 145; mtu += 1 + n%3 {
				p := four(n, o[0]...)
				l := checkCut(t, "small", p, mtu, 1)
				if len(l) > 1 && len(l) != fewest(p, mtu) {
					t.Fatalf("P10.3: %d bytes for %d: %d pieces, %d would do", long(p), mtu, len(l), fewest(p, mtu))
				}
			}
		}
	}
}

func TestFewestOfVersion6(t *testing.T) {
	for _, n := range []int{0, 1, 1231, 1232, 1233, 1239, 1240, 1241, 1248, 1249, 2463, 2464, 2465, 2471, 2472, 2473, 2480, 2481, 3696, 3703, 3704, 5000} {
		for mtu := 1280; mtu < 1306; mtu++ {
			p := six(n)
			l := checkCut(t, "small", p, mtu, uint32(mtu))
			if len(l) > 1 && len(l) != fewest(p, mtu) {
				t.Fatalf("P10.3: %d bytes for %d: %d pieces, %d would do", long(p), mtu, len(l), fewest(p, mtu))
			}
		}
	}
}

func TestJustTooLong(t *testing.T) {
	for _, o := range optionLists() {
		for _, mtu := range []int{68, 69, 75, 76, 576, 1499, 1500, 65528, 65534} {
			for n := mtu - 90; n < mtu+20; n++ {
				if p := four(max(n, 0), o[0]...); long(p) > 0 {
					checkCut(t, "about an MTU", p, mtu, 0)
				}
			}
		}
	}
	for _, mtu := range []int{1280, 1281, 1287, 1288, 1500, 9000, 65528, 65534, 65535} {
		for n := mtu - 60; n < min(mtu+20, 65536); n++ {
			checkCut(t, "about an MTU", six(n), mtu, 8)
		}
	}
}

func TestGreatest(t *testing.T) {
	for _, mtu := range []int{68, 75, 76, 84, 576, 1280, 1500, 32768, 65534, 65535} {
		checkCut(t, "the greatest", four(65515), mtu, 0)
		for _, o := range optionLists() {
			p := four(65515-len(o[0]), o[0]...)
			l := checkCut(t, "the greatest with options", p, mtu, 0)
			checkIs(t, "the greatest with options", p, mtu, l)
			for _, q := range l[1:] {
				if !bytes.Equal(q.Opts, o[1]) {
					t.Fatalf("P10.2: carried % x of % x", q.Opts, o[0])
				}
			}
		}
	}
	for _, mtu := range []int{1280, 1287, 1288, 1500, 32768, 65528, 65534, 65535} {
		for _, n := range []int{65487, 65488, 65495, 65496, 65520, 65527, 65528, 65534, 65535} {
			if l := checkCut(t, "the greatest", six(n), mtu, 0); n == 65535 && len(l) < 2 {
				t.Errorf("P10.1: 65575 bytes for %d: %d pieces", mtu, len(l))
			}
		}
	}
}

func TestNumbersOfTheDatagram(t *testing.T) {
	for _, id := range []uint32{0, 1, 65535, 65536, math.MaxUint32} {
		for _, q := range checkCut(t, "an ID", six(3000), 1280, id) {
			if q.ID != id || !q.Frag {
				t.Errorf("P10.1: version 6 with %d: %d", id, q.ID)
			}
		}
		if l := checkCut(t, "it fits", six(30), 1280, id); l[0].ID != 0 || l[0].Frag {
			t.Errorf("P10.1: version 6 alone with %d: %d", id, l[0].ID)
		}
		for _, q := range checkCut(t, "an ID", four(3000), 1280, id) {
			if q.ID != 7 {
				t.Errorf("P10.1: version 4 with %d: %d", id, q.ID)
			}
		}
	}
}

// partings are all ways to part units of 8 bytes, with some more at the end.
func partings(units, more int) [][]int {
	var all [][]int
	for word := range 1 << (units - 1) {
		l := []int{8}
		for i := range units - 1 {
			if word>>i&1 == 1 {
				l = append(l, 8)
			} else {
				l[len(l)-1] += 8
			}
		}
		if more > 0 && word%3 != 0 {
			l = append(l, more)
		} else {
			l[len(l)-1] += more
		}
		all = append(all, l)
	}
	return all
}

func TestAnyPartingWillDo(t *testing.T) {
	for more := range 8 {
		for _, sizes := range partings(8, more) {
			for _, o := range [][]byte{nil, alert(), options()} {
				p := four(64+more, o...)
				l := parts(p, 0, sizes...)
				longest := 0
				for _, q := range l {
					longest = max(longest, long(q))
				}
				for _, mtu := range []int{68, longest - 1, longest, longest + 1, 1500, 65535} {
					if want := mtu >= max(68, longest); Is(p, mtu, l) != want {
						t.Fatalf("P10.4: %v with % x for %d: wanted %v", sizes, o, mtu, want)
					}
				}
			}
			if p := six(64 + more); !Is(p, 1280, parts(p, uint32(more), sizes...)) {
				t.Fatalf("P10.4: version 6: %v", sizes)
			}
		}
	}
	p := six(4000)
	for _, c := range []struct {
		sizes []int
		mtu   int
	}{{[]int{1240, 1240, 1520}, 1568}, {[]int{8, 1232, 1240, 1520}, 1568}, {[]int{3992, 8}, 4040}} {
		if l := parts(p, 1, c.sizes...); !Is(p, c.mtu, l) || Is(p, c.mtu-1, l) {
			t.Errorf("P10.4: version 6: %v for %d", c.sizes, c.mtu)
		}
	}
}

func TestPartedElsewhere(t *testing.T) {
	for _, sizes := range [][]int{{12, 52}, {8, 7, 49}, {1, 63}, {60, 4}, {64, 0}, {0, 64}, {32, 0, 32}, {63, 1}} {
		for _, p := range []api.Packet{four(64), six(64)} {
			l := parts(p, 1, sizes...)
			if Is(p, 1500, l) || is(p, 1500, l) {
				t.Errorf("P10.4: %v is taken", sizes)
			}
		}
	}
}

// changes are ways to change one field of a packet; where one leaves it as it was, it is passed over.
func changes() map[string]func(*api.Packet) {
	set := map[string]func(*api.Packet){
		"the other V": func(p *api.Packet) { p.V = 10 - p.V }, "V 0": func(p *api.Packet) { p.V = 0 }, "TOS": func(p *api.Packet) { p.TOS ^= 1 },
		"Flow": func(p *api.Packet) { p.Flow ^= 1 }, "Src": func(p *api.Packet) { p.Src.B[3] ^= 1 }, "Dst": func(p *api.Packet) { p.Dst.B[3] ^= 1 },
		"Src.V": func(p *api.Packet) { p.Src.V = 10 - p.Src.V }, "Dst's last byte": func(p *api.Packet) { p.Dst.B[15] ^= 1 },
		"Proto": func(p *api.Packet) { p.Proto ^= 1 }, "TTL": func(p *api.Packet) { p.TTL ^= 1 }, "ID": func(p *api.Packet) { p.ID ^= 1 },
		"DF": func(p *api.Packet) { p.DF = !p.DF }, "More": func(p *api.Packet) { p.More = !p.More }, "Frag": func(p *api.Packet) { p.Frag = !p.Frag },
		"Off less": func(p *api.Packet) { p.Off -= 8 }, "Off more": func(p *api.Packet) { p.Off += 8 }, "Off by 1": func(p *api.Packet) { p.Off++ },
		"options more": func(p *api.Packet) { p.Opts = append(bytes.Clone(p.Opts), 0, 0, 0, 0) },
		"options else": func(p *api.Packet) { p.Opts = []byte{0x94, 4, 0, 9} },
		"no list":      func(p *api.Packet) { p.Opts = []byte{0x94} },
		"data more":    func(p *api.Packet) { p.Data = append(bytes.Clone(p.Data), make([]byte, 8)...) },
		"data less":    func(p *api.Packet) { p.Data = p.Data[:len(p.Data)-1] },
		"no data":      func(p *api.Packet) { p.Data = nil },
	}
	for _, at := range []int{0, 1, 7, -1} {
		set["the byte at "+strconv.Itoa(at)] = func(p *api.Packet) {
			p.Data = bytes.Clone(p.Data)
			p.Data[(at+len(p.Data))%len(p.Data)] ^= 0x80
		}
	}
	return set
}

func lists() []struct {
	p   api.Packet
	mtu int
	l   []api.Packet
} {
	type row = struct {
		p   api.Packet
		mtu int
		l   []api.Packet
	}
	var all []row
	for _, p := range []api.Packet{four(100), four(104, alert()...), four(97, options()...), six(100), six(104)} {
		n := len(p.Data)
		for _, sizes := range [][]int{{48, n - 48}, {8, 8, 16, n - 32}, {16, 16, 16, 16, n - 64}, {96, n - 96}} {
			all = append(all, row{p, 1500, parts(p, 40, sizes...)})
		}
		all = append(all, row{p, 1500, []api.Packet{p}})
	}
	return all
}

func TestOneFieldChanged(t *testing.T) {
	for _, c := range lists() {
		if !Is(c.p, c.mtu, c.l) {
			t.Fatalf("P10.4: %v is not taken", lengths(c.l))
		}
		for what, change := range changes() {
			for i := range c.l {
				l := append([]api.Packet(nil), c.l...)
				change(&l[i])
				if same(l[i], c.l[i]) {
					continue
				}
				if Is(c.p, c.mtu, l) {
					t.Errorf("P10.4: version %d, %v: taken with %s of the %d-th changed", c.p.V, lengths(c.l), what, i)
				}
			}
			p := c.p
			change(&p)
			checkIs(t, what+" of the packet", p, c.mtu, c.l)
		}
	}
}

func TestFieldOfAllChanged(t *testing.T) {
	for _, c := range lists() {
		for what, change := range changes() {
			l := append([]api.Packet(nil), c.l...)
			for i := range l {
				change(&l[i])
			}
			checkIs(t, what+" of all", c.p, c.mtu, l)
			want := what == "ID" && c.p.V == 6 && len(l) > 1
			if !alike(l, c.l) && Is(c.p, c.mtu, l) != want {
				t.Errorf("P10.4: version %d: with %s of all changed: wanted %v", c.p.V, what, want)
			}
		}
	}
}

func without(l []api.Packet, i int) []api.Packet {
	return append(append([]api.Packet(nil), l[:i]...), l[i+1:]...)
}

func TestLeftOutDoubledChangedAbout(t *testing.T) {
	for _, c := range lists() {
		if len(c.l) < 2 {
			continue
		}
		for i := range c.l {
			if Is(c.p, c.mtu, without(c.l, i)) {
				t.Errorf("P10.4: taken without the %d-th of %v", i, lengths(c.l))
			}
			for at := range len(c.l) + 1 {
				l := append(append(append([]api.Packet(nil), c.l[:at]...), c.l[i]), c.l[at:]...)
				if Is(c.p, c.mtu, l) {
					t.Errorf("P10.4: taken with the %d-th of %v twice", i, lengths(c.l))
				}
			}
			for j := range i {
				l := append([]api.Packet(nil), c.l...)
				l[i], l[j] = l[j], l[i]
				if Is(c.p, c.mtu, l) {
					t.Errorf("P10.4: taken with %d and %d of %v changed about", i, j, lengths(c.l))
				}
			}
		}
		for _, l := range [][]api.Packet{nil, {}, {c.p, c.p}, append(c.l[:len(c.l):len(c.l)], c.p), append([]api.Packet{c.p}, c.l...), {{}}} {
			if Is(c.p, c.mtu, l) {
				t.Errorf("P10.1: %v is taken", lengths(l))
			}
		}
	}
}

func TestNoData(t *testing.T) {
	for _, p := range []api.Packet{four(0), four(0, options()...), six(0)} {
		for _, l := range [][]api.Packet{nil, {p, p}, parts(p, 0, 0, 0), parts(p, 0, 0, 0, 0)} {
			if Is(p, 1500, l) {
				t.Errorf("P10.1: %d packets of nothing are taken", len(l))
			}
		}
		empty := p
		empty.Data, empty.Opts = []byte{}, append([]byte{}, p.Opts...)
		if !Is(p, 1500, []api.Packet{empty}) || !Is(empty, 1500, []api.Packet{p}) {
			t.Error("P10.1: nil and empty")
		}
		checkCut(t, "no data", empty, 1280, 0)
	}
}

func TestDFIsNotParted(t *testing.T) {
	p := four(100)
	p.DF = true
	l := parts(p, 0, 48, 52)
	if Is(p, 1500, l) {
		t.Error("P10.1: DF is parted")
	}
	for i := range l {
		l[i].DF = false
	}
	if Is(p, 1500, l) || !Is(p, 1500, []api.Packet{p}) || Is(p, 119, []api.Packet{p}) {
		t.Error("P10.1: DF")
	}
}

func TestAtomicIsNoFragmentation(t *testing.T) {
	p := six(100)
	q := p
	q.Frag = true
	if Is(p, 1500, []api.Packet{q}) || Is(q, 1500, []api.Packet{q}) || Is(q, 1500, parts(q, 0, 48, 52)) {
		t.Error("P10.1: an atomic fragment")
	}
}

// packet is any whole packet that is right.
func (s *source) packet() api.Packet {
	n := s.below(400)
	if s.below(8) == 0 {
		n = s.below(9000)
	}
	if s.chance() {
		p := six(0)
		p.TOS, p.Flow, p.TTL, p.Proto, p.Data = s.below(256), s.below(1<<20), s.below(256), s.below(44), s.bytes(n)
		return p
	}
	all := optionLists()
	p := four(0, all[s.below(len(all))][0]...)
	p.TOS, p.TTL, p.Proto, p.ID, p.DF, p.Data = s.below(256), s.below(256), s.below(256), uint32(s.below(65536)), s.below(4) == 0, s.bytes(n)
	return p
}

// parting is any way to part so many bytes at multiples of 8.
func (s *source) parting(n, most int) []int {
	var l []int
	for n > 0 {
		k := min(n, 8*(1+s.below(most)))
		l = append(l, k)
		n -= k
	}
	return l
}

func TestRandomPackets(t *testing.T) {
	s := source(10)
	for range 20000 {
		p := s.packet()
		mtu := []int{68, 1280, 1500}[s.below(3)] + s.below(1000)
		checkCut(t, "random", p, mtu, uint32(s.next()))
	}
}

func TestRandomLists(t *testing.T) {
	s := source(4)
	all := changes()
	var names []string
	for what := range all {
		names = append(names, what)
	}
	taken := 0
	for range 20000 {
		p := s.packet()
		if len(p.Data) == 0 {
			continue
		}
		l := parts(p, uint32(s.next()), s.parting(len(p.Data), 1+s.below(30))...)
		mtu := []int{68, 1280, 1500}[s.below(3)] + s.below(300)
		if s.below(3) == 0 {
			if i := s.below(len(l)); len(l[i].Data) > 0 {
				all[names[s.below(len(names))]](&l[i])
			}
		}
		checkIs(t, "random", p, mtu, l)
		if Is(p, mtu, l) {
			taken++
		}
	}
	if taken < 1000 {
		t.Errorf("only %d lists are taken", taken)
	}
}
