package opts

import (
	"bytes"
	"math"
	"slices"
	"testing"

	"mosaic/api"
)

// source is a plain generator, so that every run sees the same inputs.
type source uint64

func (s *source) next() uint64 {
	*s ^= *s << 13
	*s ^= *s >> 7
	*s ^= *s << 17
	return uint64(*s)
}

func (s *source) below(n int) int { return int((s.next() >> 11) % uint64(n)) }

// kind is often one at an edge.
func (s *source) kind() int {
	return []int{1, 1, 2, 7, 127, 128, 255, 2 + s.below(254)}[s.below(8)]
}

func (s *source) data(n int) []byte {
	b := make([]byte, n)
	for i := range b {
		b[i] = byte(s.next() >> 30)
	}
	return b
}

// option is a right one with at most most bytes of data.
func (s *source) option(most int) api.Opt {
	o := api.Opt{Kind: s.kind()}
	if o.Kind != 1 {
		o.Data = s.data(s.below(most + 1))
	}
	return o
}

func (s *source) options() []api.Opt {
	var l []api.Opt
	most := []int{0, 3, 12, 38}[s.below(4)]
	for range s.below(9) {
		l = append(l, s.option(most))
	}
	return l
}

// raw is bytes that are often a list of options, and often nearly one.
func (s *source) raw() []byte {
	var b []byte
	for _, o := range s.options() {
		b = append(b, laid(o)...)
	}
	b = append(b, make([]byte, []int{0, 0, 1, 2, 3, 4, 5, 9}[s.below(8)])...)
	switch s.below(4) {
	case 0:
		for len(b)%4 != 0 {
			b = append(b, 0)
		}
	case 1:
		b = b[:s.below(len(b)+1)]
	case 2:
		if len(b) > 0 {
			b[s.below(len(b))] = []byte{0, 1, 2, 3, 128, 255}[s.below(6)]
		}
	}
	return b
}

// laid is what one option is on the wire, as P4.3 words it.
func laid(o api.Opt) []byte {
	if o.Kind == 1 {
		return []byte{1}
	}
	return slices.Concat([]byte{byte(o.Kind), byte(len(o.Data) + 2)}, o.Data)
}

// parsed is P4.1 from the front to the rest of the bytes; ended tells of an end.
func parsed(b []byte) (l []api.Opt, ended, ok bool) {
	switch {
	case len(b) == 0:
		return nil, false, true
	case b[0] == 0:
		return nil, true, bytes.Count(b, []byte{0}) == len(b)
	case b[0] == 1:
		l, ended, ok = parsed(b[1:])
		return append([]api.Opt{{Kind: 1}}, l...), ended, ok
	case len(b) == 1 || b[1] == 0 || b[1] == 1 || int(b[1]) > len(b):
		return nil, false, false
	}
	n := b[1]
	l, ended, ok = parsed(b[n:])
	return append([]api.Opt{{Kind: int(b[0]), Data: b[2:n]}}, l...), ended, ok
}

// built is P4.3.
func built(l []api.Opt) ([]byte, api.Errno) {
	var b []byte
	for _, o := range l {
		if o.Kind <= 0 || o.Kind >= 256 || o.Kind == 1 && len(o.Data) != 0 || len(o.Data) >= 39 {
			return nil, api.ErrOpt
		}
		b = append(b, laid(o)...)
	}
	if len(b) > 40 {
		return nil, api.ErrLong
	}
	for len(b)%4 != 0 {
		b = append(b, 0)
	}
	return b, api.OK
}

// carried is P4.4.
func carried(b []byte) []byte {
	l, _, ok := parsed(b)
	if !ok || len(b)%4 != 0 || len(b) > 40 {
		return nil
	}
	b, _ = built(slices.DeleteFunc(l, func(o api.Opt) bool { return o.Kind&128 == 0 }))
	return b
}

func same(a, b []api.Opt) bool {
	return slices.EqualFunc(a, b, func(x, y api.Opt) bool { return x.Kind == y.Kind && bytes.Equal(x.Data, y.Data) })
}

// inputs hands on all short bytes of an alphabet that holds every edge, and many long ones.
func inputs(f func(b []byte)) {
	alphabet := []byte{0, 1, 2, 3, 4, 127, 128, 255}
	for n := range 6 {
		total := 1 << (3 * n)
		for k := range total {
			b := make([]byte, n)
			for i := range b {
				b[i] = alphabet[k>>(3*i)&7]
			}
			f(b)
		}
	}
	s := source(4)
	for range 30000 {
		f(s.raw())
	}
	for range 3000 {
		f(s.data(s.below(60)))
	}
}

func TestParse(t *testing.T) {
	inputs(func(b []byte) {
		want, _, ok := parsed(b)
		l, e := Parse(b)
		if ok && (e != api.OK || !same(l, want)) {
			t.Fatalf("P4.1: Parse(% x) = %v, %d, want %v", b, l, e, want)
		}
		if !ok && (e != api.ErrOpt || len(l) != 0) {
			t.Fatalf("P4.1: Parse(% x) = %v, %d, want none and ErrOpt", b, l, e)
		}
	})
}

func TestParseEdges(t *testing.T) {
	long := append([]byte{7, 255}, make([]byte, 253)...)
	for _, c := range []struct {
		b []byte
		l []api.Opt
		e api.Errno
	}{
		{nil, nil, api.OK},
		{[]byte{}, nil, api.OK},
		{[]byte{0}, nil, api.OK},
		{[]byte{0, 0}, nil, api.OK},
		{[]byte{0, 1}, nil, api.ErrOpt},
		{[]byte{1, 0, 0, 0, 7}, nil, api.ErrOpt},
		{[]byte{1, 68, 4, 0xaa, 0xbb, 0, 0, 0}, []api.Opt{{Kind: 1}, {Kind: 68, Data: []byte{0xaa, 0xbb}}}, api.OK},
		{[]byte{68}, nil, api.ErrOpt},
		{[]byte{1, 68}, nil, api.ErrOpt},
		{[]byte{68, 0}, nil, api.ErrOpt},
		{[]byte{68, 1}, nil, api.ErrOpt},
		{[]byte{68, 2}, []api.Opt{{Kind: 68}}, api.OK},
		{[]byte{68, 3, 0xaa}, []api.Opt{{Kind: 68, Data: []byte{0xaa}}}, api.OK},
		{[]byte{68, 4, 0xaa}, nil, api.ErrOpt},
		{[]byte{2, 3, 0}, []api.Opt{{Kind: 2, Data: []byte{0}}}, api.OK},
		{[]byte{1, 1, 1}, []api.Opt{{Kind: 1}, {Kind: 1}, {Kind: 1}}, api.OK},
		{long, []api.Opt{{Kind: 7, Data: make([]byte, 253)}}, api.OK},
		{long[:254], nil, api.ErrOpt},
		{append(slices.Clone(long), 1), []api.Opt{{Kind: 7, Data: make([]byte, 253)}, {Kind: 1}}, api.OK},
	} {
		if l, e := Parse(c.b); e != c.e || !same(l, c.l) {
			t.Errorf("P4.1: Parse(% x) = %v, %d, want %v, %d", c.b, l, e, c.l, c.e)
		}
	}
	ones := bytes.Repeat([]byte{1}, 1<<20)
	if l, e := Parse(ones); e != api.OK || len(l) != len(ones) {
		t.Errorf("P4.1: many options: %d, %d", len(l), e)
	}
}

func TestEveryKind(t *testing.T) {
	for kind := 1; kind < 256; kind++ {
		o := api.Opt{Kind: kind}
		if kind > 1 {
			o.Data = []byte{9, 0}
		}
		want, _ := built([]api.Opt{o})
		b, e := Build([]api.Opt{o})
		if e != api.OK || !bytes.Equal(b, want) {
			t.Errorf("P4.3: Build(%v) = % x, %d, want % x", o, b, e, want)
		}
		if l, e := Parse(b); e != api.OK || !same(l, []api.Opt{o}) {
			t.Errorf("P4.1: Parse(% x) = %v, %d, want %v", b, l, e, o)
		}
		if kind < 128 {
			want = nil
		}
		if c := Carry(b); !bytes.Equal(c, want) {
			t.Errorf("P4.4: Carry(% x) = % x, want % x", b, c, want)
		}
	}
}

func TestValid(t *testing.T) {
	inputs(func(b []byte) {
		_, _, ok := parsed(b)
		ok = ok && len(b)%4 == 0 && len(b) <= 40
		if got := Valid(b); got != ok {
			t.Fatalf("P4.2: Valid(% x) = %v, want %v", b, got, ok)
		}
	})
	for n := range 60 {
		for _, x := range []byte{0, 1} {
			want := n%4 == 0 && n <= 40
			if ok := Valid(bytes.Repeat([]byte{x}, n)); ok != want {
				t.Errorf("P4.2: Valid of %d bytes %d = %v", n, x, ok)
			}
		}
	}
	if Valid([]byte{1, 1, 1, 7}) || Valid([]byte{0, 0, 0, 1}) || Valid([]byte{7, 5, 0, 0}) || !Valid([]byte{7, 4, 0, 0}) {
		t.Errorf("P4.2: lists that Parse refuses are not valid")
	}
}

func TestBuild(t *testing.T) {
	s := source(5)
	for range 60000 {
		l := s.options()
		if len(l) > 0 && s.below(4) == 0 {
			o := &l[s.below(len(l))]
			switch s.below(4) {
			case 0:
				o.Kind = []int{0, -1, 256, 257, 1 << 32, 1<<32 + 1, math.MinInt, math.MaxInt}[s.below(8)]
			case 1:
				o.Data = s.data(39 + s.below(300))
			case 2:
				o.Data = s.data(38)
			case 3:
				o.Kind, o.Data = 1, s.data(1+s.below(50))
			}
		}
		want, code := built(l)
		if b, e := Build(l); e != code || !bytes.Equal(b, want) {
			t.Fatalf("P4.3: Build(%v) = % x, %d, want % x, %d", l, b, e, want, code)
		}
	}
}

func TestBuildEdges(t *testing.T) {
	times := func(n int, o api.Opt) []api.Opt { return slices.Repeat([]api.Opt{o}, n) }
	nop, bare := api.Opt{Kind: 1}, api.Opt{Kind: 7}
	most := api.Opt{Kind: 7, Data: make([]byte, 38)}
	over := api.Opt{Kind: 7, Data: make([]byte, 39)}
	for _, c := range []struct {
		l []api.Opt
		n int
		e api.Errno
	}{
		{nil, 0, api.OK},
		{[]api.Opt{}, 0, api.OK},
		{[]api.Opt{{Kind: 1, Data: []byte{}}}, 4, api.OK},
		{times(1, api.Opt{}), 0, api.ErrOpt},
		{times(1, api.Opt{Kind: -1}), 0, api.ErrOpt},
		{times(1, api.Opt{Kind: 256}), 0, api.ErrOpt},
		{times(1, api.Opt{Kind: 255}), 4, api.OK},
		{times(1, api.Opt{Kind: 1, Data: []byte{0}}), 0, api.ErrOpt},
		{times(1, most), 40, api.OK},
		{times(1, over), 0, api.ErrOpt},
		{[]api.Opt{nop, most}, 0, api.ErrLong},
		{[]api.Opt{most, nop}, 0, api.ErrLong},
		{times(20, bare), 40, api.OK},
		{times(21, bare), 0, api.ErrLong},
		{times(40, nop), 40, api.OK},
		{times(41, nop), 0, api.ErrLong},
		{times(37, nop), 40, api.OK},
		{times(36, nop), 36, api.OK},
		{append(times(41, nop), api.Opt{}), 0, api.ErrOpt},
		{append(times(9, most), over), 0, api.ErrOpt},
		{append(times(1, over), times(40, nop)...), 0, api.ErrOpt},
	} {
		if b, e := Build(c.l); e != c.e || len(b) != c.n {
			t.Errorf("P4.3: Build of %d options = %d bytes, %d, want %d, %d", len(c.l), len(b), e, c.n, c.e)
		}
	}
}

func TestCarry(t *testing.T) {
	inputs(func(b []byte) {
		want := carried(b)
		if got := Carry(b); !bytes.Equal(got, want) {
			t.Fatalf("P4.4: Carry(% x) = % x, want % x", b, got, want)
		}
	})
	for _, c := range []struct{ b, want []byte }{
		{nil, nil},
		{[]byte{0x82, 3, 0xaa, 1, 0x44, 2, 0, 0}, []byte{0x82, 3, 0xaa, 0}},
		{[]byte{0x44, 2, 1, 1}, nil},
		{[]byte{0x82, 3, 0xaa}, nil},
		{[]byte{127, 2, 128, 2}, []byte{128, 2, 0, 0}},
		{[]byte{130, 2, 1, 129, 3, 5, 0, 0}, []byte{130, 2, 129, 3, 5, 0, 0, 0}},
		{[]byte{130, 2, 0, 1}, nil},
		{append([]byte{130, 4, 1, 2}, make([]byte, 40)...), nil},
		{append([]byte{130, 4, 1, 2}, make([]byte, 36)...), []byte{130, 4, 1, 2}},
	} {
		if got := Carry(c.b); !bytes.Equal(got, c.want) {
			t.Errorf("P4.4: Carry(% x) = % x, want % x", c.b, got, c.want)
		}
	}
}

func TestThereAndBack(t *testing.T) {
	s := source(6)
	for range 30000 {
		l := s.options()
		b, e := Build(l)
		if e != api.OK {
			continue
		}
		back, e := Parse(b)
		if !Valid(b) || e != api.OK || !same(back, l) {
			t.Fatalf("P4.5: Build(%v) = % x, back %v, %d", l, b, back, e)
		}
	}
}

func TestOneForm(t *testing.T) {
	inputs(func(b []byte) {
		if !Valid(b) {
			return
		}
		l, _ := Parse(b)
		a, e := Build(l)
		if e != api.OK || !bytes.HasPrefix(b, a) || bytes.Count(b[len(a):], []byte{0}) != len(b)-len(a) {
			t.Fatalf("P4.6: Build(Parse(% x)) = % x, %d", b, a, e)
		}
	})
}

func TestPieces(t *testing.T) {
	s := source(7)
	joined := 0
	for range 60000 {
		a, c := s.raw(), s.raw()
		la, ea := Parse(a)
		if _, ended, _ := parsed(a); ea != api.OK || ended {
			continue
		}
		joined++
		lc, ec := Parse(c)
		l, e := Parse(slices.Concat(a, c))
		if e != ec || e == api.OK && !same(l, slices.Concat(la, lc)) {
			t.Fatalf("P4.7: Parse(% x and % x) = %v, %d", a, c, l, e)
		}
	}
	if joined < 1000 {
		t.Fatalf("only %d pieces were joined", joined)
	}
}

func TestCarriedOnce(t *testing.T) {
	inputs(func(b []byte) {
		c := Carry(b)
		if !Valid(c) || len(c) > len(b) || !bytes.Equal(Carry(c), c) {
			t.Fatalf("P4.8: Carry(% x) = % x, again % x", b, c, Carry(c))
		}
	})
}

// roomy is b with spare room behind it, and all of that room.
func roomy(b []byte) (view, room []byte) {
	room = append(slices.Clone(b), bytes.Repeat([]byte{0xee}, 48)...)
	return room[:len(b)], room
}

// scribble fills a list and its spare room.
func scribble(b []byte, x byte) {
	b = b[:cap(b)]
	for i := range b {
		b[i] = x
	}
}

func TestParseSharesNothing(t *testing.T) {
	inputs(func(b []byte) {
		view, room := roomy(b)
		was := slices.Clone(room)
		l, _ := Parse(view)
		Valid(view)
		Carry(view)
		if !bytes.Equal(room, was) {
			t.Fatalf("P4.9: % x was changed", b)
		}
		for i := range l {
			want := make([][]byte, len(l))
			for j := range l {
				want[j] = slices.Clone(l[j].Data)
			}
			scribble(l[i].Data, byte(i)+17)
			for j := range l {
				if j != i && !bytes.Equal(l[j].Data, want[j]) {
					t.Fatalf("P4.9: Parse(% x): data %d and %d share memory", b, i, j)
				}
			}
		}
		if !bytes.Equal(room, was) {
			t.Fatalf("P4.9: Parse(% x) tells the bytes that it was given", b)
		}
		want, _, _ := parsed(b)
		l, _ = Parse(view)
		want = slices.Clone(want)
		for i := range want {
			want[i].Data = slices.Clone(want[i].Data)
		}
		scribble(room, 0x55)
		if len(l) > 0 && !same(l, want) {
			t.Fatalf("P4.9: Parse(% x) keeps the bytes that it was given", b)
		}
	})
}

func TestBuildSharesNothing(t *testing.T) {
	s := source(8)
	for range 5000 {
		l := s.options()
		rooms, were := make([][]byte, len(l)), make([][]byte, len(l))
		for i := range l {
			l[i].Data, rooms[i] = roomy(l[i].Data)
			were[i] = slices.Clone(rooms[i])
		}
		spare := append(slices.Clone(l), api.Opt{Kind: 99}, api.Opt{Kind: 98})
		want, _ := built(l)
		b, _ := Build(spare[:len(l)])
		again, _ := Build(spare[:len(l)])
		scribble(again, 0x55)
		for i := range l {
			if spare[i].Kind != l[i].Kind || len(spare[i].Data) != len(l[i].Data) || !bytes.Equal(rooms[i], were[i]) {
				t.Fatalf("P4.9: Build changed option %d of %v", i, l)
			}
			scribble(rooms[i], 0x66)
		}
		if spare[len(l)].Kind != 99 || spare[len(l)+1].Kind != 98 {
			t.Fatalf("P4.9: Build changed the room behind %v", l)
		}
		if !bytes.Equal(b, want) {
			t.Fatalf("P4.9: Build(%v) shares memory", l)
		}
	}
}

func TestCarrySharesNothing(t *testing.T) {
	b := []byte{0x82, 3, 0xaa, 0}
	c := Carry(b)
	scribble(c, 0x55)
	if !bytes.Equal(b, []byte{0x82, 3, 0xaa, 0}) || !bytes.Equal(Carry(b), b) {
		t.Errorf("P4.9: Carry tells the bytes that it was given")
	}
}
