package recut

import (
	"math"
	"slices"
	"testing"

	"mosaic/api"
)

func checkJoin(t *testing.T, what string, l []api.Packet) api.Errno {
	t.Helper()
	got, e := Join(l)
	want, code := join(l)
	if e != code || !same(got, want) {
		t.Fatalf("P11.3: %s: Join of %v: %d bytes, %d, wanted %d bytes, %d", what, lengths(l), len(got.Data), e, len(want.Data), code)
	}
	return e
}

func joins(t *testing.T, what string, want api.Packet, l ...api.Packet) {
	t.Helper()
	checkJoin(t, what, l)
	if got, e := Join(l); e != api.OK || !same(got, want) {
		t.Errorf("P11.3: %s: Join of %v: %d bytes, %d", what, lengths(l), len(got.Data), e)
	}
}

func fails(t *testing.T, what string, want api.Errno, l ...api.Packet) {
	t.Helper()
	checkJoin(t, what, l)
	if got, e := Join(l); e != want || !same(got, api.Packet{}) {
		t.Errorf("P11.3: %s: Join of %v: %d bytes, %d, wanted %d", what, lengths(l), len(got.Data), e, want)
	}
}

// at is a fragment of a datagram of version 4, and at6 one of version 6.
func at(off, n int, more bool) api.Packet { return piece(four(n), off, more) }

func at6(off, n int, more bool) api.Packet { return piece(six(n), off, more) }

func TestExamplesOfJoin(t *testing.T) {
	p := four(100)
	l, _ := Recut(p, 68)
	for _, k := range orders(l) {
		joins(t, "example 4", p, k...)
	}
	for i := range l {
		fails(t, "example 4: two of them", api.ErrGap, without(l, i)...)
		fails(t, "example 4: one twice", api.ErrArg, append(slices.Clone(l), l[i])...)
	}
	fails(t, "example 4: none", api.ErrGap)
	joins(t, "example 4: whole", p, p)
	fails(t, "example 4: two IDs", api.ErrArg, l[0], with(l[1], func(p *api.Packet) { p.ID = 6 }), l[2])
}

func TestKeysOfOneDatagram(t *testing.T) {
	for what, change := range map[string]func(*api.Packet){
		"ID": func(p *api.Packet) { p.ID++ }, "Proto": func(p *api.Packet) { p.Proto++ },
		"Src": func(p *api.Packet) { p.Src.B[3]++ }, "Dst": func(p *api.Packet) { p.Dst.B[3]++ },
	} {
		for _, l := range [][]api.Packet{{at(0, 8, true), at(8, 8, true), at(16, 3, false)}, {at6(0, 8, true), at6(8, 8, true), at6(16, 3, false)}} {
			for i := range l {
				k := slices.Clone(l)
				change(&k[i])
				fails(t, what, api.ErrArg, k...)
			}
			// Where something is missing as well, the keys come first.
			fails(t, what+" and a gap", api.ErrArg, l[0], with(l[1], change))
		}
	}
	fails(t, "two versions", api.ErrArg, at(0, 8, true), at6(8, 8, false))
}

func TestOtherFieldsAreOfTheFirst(t *testing.T) {
	first := with(piece(four(16, both()...), 0, true), func(p *api.Packet) { p.TOS, p.TTL, p.DF = 9, 60, true })
	later := with(piece(four(11, many()...), 16, false), func(p *api.Packet) { p.TOS, p.TTL = 200, 1 })
	want := first
	want.More, want.Data = false, slices.Concat(first.Data, later.Data)
	joins(t, "version 4", want, first, later)
	joins(t, "version 4", want, later, first)

	begin := with(at6(0, 16, true), func(p *api.Packet) { p.TOS, p.TTL, p.Flow = 9, 60, 1<<20-1 })
	end := with(at6(16, 11, false), func(p *api.Packet) { p.TOS, p.TTL, p.Flow = 200, 1, 0 })
	want = begin
	want.More, want.Frag, want.ID, want.Data = false, false, 0, slices.Concat(begin.Data, end.Data)
	joins(t, "version 6", want, begin, end)
	joins(t, "version 6", want, end, begin)
}

func TestWholePackets(t *testing.T) {
	for _, n := range []int{0, 1, 8, 100} {
		p := with(four(n, many()...), func(p *api.Packet) { p.DF = n == 1 })
		joins(t, "version 4", p, p)
		joins(t, "version 6", six(n), six(n))
		atomic := piece(six(n), 0, false)
		joins(t, "an atomic fragment", six(n), atomic)
		fails(t, "two", api.ErrArg, p, p)
		fails(t, "two", api.ErrArg, six(n), six(n))
		fails(t, "two atomic ones", api.ErrArg, atomic, atomic)
		fails(t, "a fragment behind it", api.ErrArg, p, at(n/8*8+8, 8, true))
		fails(t, "a fragment at its begin", api.ErrArg, p, at(0, 8, true))
		fails(t, "a fragment at its begin", api.ErrArg, at(0, 8, true), p)
		// Without a fragment header the ID is 0: a fragment of that ID has the same key.
		nought := with(at6(0, 8, true), func(p *api.Packet) { p.ID = 0 })
		fails(t, "a fragment of its key", api.ErrArg, six(n), nought)
		fails(t, "a fragment of its key", api.ErrArg, nought, six(n))
	}
}

func TestWhatCanNotBeOfOneDatagram(t *testing.T) {
	for what, l := range map[string][]api.Packet{
		"two ends":                         {at(0, 8, true), at(8, 8, false), at(16, 8, false)},
		"two ends, one place":              {at(0, 8, true), at(8, 8, false), at(8, 8, false)},
		"two ends, and a gap":              {at(16, 8, false), at(32, 8, false)},
		"the same twice, and a gap":        {at(0, 8, true), at(0, 8, true)},
		"one within another":               {at(0, 24, true), at(8, 8, true), at(24, 1, false)},
		"one within another, no end":       {at(0, 24, true), at(8, 8, true)},
		"one at another's begin":           {at(0, 24, true), at(0, 8, true), at(24, 1, false)},
		"one at another's end":             {at(0, 24, true), at(16, 8, true), at(24, 1, false)},
		"one over its neighbour":           {at(0, 16, true), at(8, 16, true), at(24, 1, false)},
		"one over its neighbour, a gap":    {at(16, 16, true), at(24, 16, true)},
		"the last over its neighbour":      {at(0, 16, true), at(8, 9, false)},
		"the last within its neighbour":    {at(0, 16, true), at(8, 3, false)},
		"one that ends behind the last":    {at(0, 8, true), at(8, 16, true), at(16, 3, false)},
		"one at the end":                   {at(0, 8, true), at(8, 8, false), at(16, 8, true)},
		"one behind the end":               {at(0, 8, true), at(8, 8, false), at(24, 8, true)},
		"one behind the end, and a gap":    {at(8, 8, false), at(24, 8, true)},
		"one behind an end within a unit":  {at(0, 8, true), at(8, 3, false), at(16, 8, true)},
		"one far behind, and nothing else": {at(0, 3, false), at(65520, 8, true)},
		"overlap of two that do not touch": {at(0, 8, true), at(8, 32, true), at(40, 8, true), at(16, 8, true), at(48, 1, false)},
	} {
		for _, k := range orders(l) {
			fails(t, what, api.ErrArg, k...)
			for i := range k {
				k[i] = piece(six(len(k[i].Data)), k[i].Off, k[i].More)
			}
			fails(t, what+", version 6", api.ErrArg, k...)
		}
	}
}

func TestGaps(t *testing.T) {
	for what, l := range map[string][]api.Packet{
		"no end":                     {at(0, 8, true), at(8, 8, true)},
		"no begin":                   {at(8, 8, true), at(16, 3, false)},
		"the last alone":             {at(8, 3, false)},
		"the last alone, at the end": {at(65528, 7, false)},
		"the first alone":            {at(0, 8, true)},
		"one of the middle":          {at(8, 8, true)},
		"a gap of 8":                 {at(0, 8, true), at(16, 8, false)},
		"a gap ahead of the last":    {at(0, 8, true), at(8, 8, true), at(24, 1, false)},
		"a gap behind the first":     {at(0, 8, true), at(16, 8, true), at(24, 1, false)},
		"two gaps":                   {at(0, 8, true), at(16, 8, true), at(32, 1, false)},
	} {
		for _, k := range orders(l) {
			fails(t, what, api.ErrGap, k...)
			for i := range k {
				k[i] = piece(six(len(k[i].Data)), k[i].Off, k[i].More)
			}
			fails(t, what+", version 6", api.ErrGap, k...)
		}
	}
	fails(t, "none", api.ErrGap, []api.Packet{}...)
	// What comes behind the gap in the list of errors is not told ahead of it.
	fails(t, "a gap in what would be too long", api.ErrGap, at(0, 32768, true), at(32776, 32759, false))
}

func TestOneThatIsNotRight(t *testing.T) {
	for what, wrong := range wrongs() {
		for _, l := range [][]api.Packet{{at(0, 8, true), at(8, 8, true), at(16, 8, false)}, {at6(0, 8, true), at6(8, 8, true), at6(16, 8, false)}, {four(16)}, {six(16)}, {piece(six(8), 0, false)}} {
			for i := range l {
				k := slices.Clone(l)
				wrong(&k[i])
				checkJoin(t, what, k)
			}
			fails(t, what+", a wrong one more", api.ErrArg, append(slices.Clone(l), api.Packet{})...)
			fails(t, what+", a wrong one ahead", api.ErrArg, append([]api.Packet{{}}, l...)...)
		}
	}
	fails(t, "a wrong one and a gap", api.ErrArg, at(8, 8, true), at(16, 7, true))
	fails(t, "the zero packet", api.ErrArg, api.Packet{})
	fails(t, "wrong offsets", api.ErrArg, at(math.MinInt, 8, true), at(math.MaxInt-7, 8, false))
}

func TestTooLongTogether(t *testing.T) {
	for _, o := range optionLists() {
		most := 65515 - len(o[0])
		for n := most - 2; n <= 65535; n++ {
			if n > most+3 && n < 65532 {
				continue
			}
			first, last := piece(four(32768, o[0]...), 0, true), piece(four(n-32768), 32768, false)
			for _, l := range [][]api.Packet{{first, last}, {last, first}} {
				if n > most {
					fails(t, "too long", api.ErrArg, l...)
					continue
				}
				want := piece(first, 0, false)
				want.Data = slices.Concat(first.Data, last.Data)
				joins(t, "as long as may be", want, l...)
			}
		}
	}
	// In version 6 all that fragments reach is a right packet.
	first, last := at6(0, 32768, true), at6(32768, 32767, false)
	want := six(0)
	want.Data = slices.Concat(first.Data, last.Data)
	joins(t, "version 6", want, last, first)
}

func TestManyFragments(t *testing.T) {
	p := four(65515)
	var l []api.Packet
	for off := 0; off < len(p.Data); off += 8 {
		end := min(off+8, len(p.Data))
		q := piece(p, off, end < len(p.Data))
		q.Data = p.Data[off:end]
		l = append(l, q)
	}
	s := source(3)
	for range 5 {
		k := s.shuffled(l)
		if got, e := Join(k); e != api.OK || !same(got, p) {
			t.Fatalf("P11.4: 8190 fragments: %d bytes, %d", len(got.Data), e)
		}
		i := s.below(len(k))
		if got, e := Join(without(k, i)); e != api.ErrGap || !same(got, api.Packet{}) {
			t.Fatalf("P11.7: 8189 fragments: %d", e)
		}
		if got, e := Join(append(k, k[i])); e != api.ErrArg || !same(got, api.Packet{}) {
			t.Fatalf("P11.7: 8191 fragments: %d", e)
		}
	}
}

// thereAndBack holds a list that Is takes for a whole packet against P11.4 and P11.7.
func thereAndBack(t *testing.T, p api.Packet, l []api.Packet) {
	t.Helper()
	if got, e := Join(l); e != api.OK || !same(got, p) {
		t.Fatalf("P11.4: %v: %d bytes, %d", lengths(l), len(got.Data), e)
	}
	for i := range l {
		if got, e := Join(without(l, i)); e != api.ErrGap || !same(got, api.Packet{}) {
			t.Fatalf("P11.7: without the %d-th of %v: %d", i, lengths(l), e)
		}
		if got, e := Join(inserted(l, (i*3)%len(l), l[i])); e != api.ErrArg || !same(got, api.Packet{}) {
			t.Fatalf("P11.7: with the %d-th of %v twice: %d", i, lengths(l), e)
		}
	}
}

func TestThereAndBackInEveryWay(t *testing.T) {
	for _, o := range [][]byte{nil, both(), many()} {
		for more := range 8 {
			p := four(32+more, o...)
			for _, sizes := range partings(4, more) {
				l := parts(p, sizes...)
				if !Is(p, 1500, l) {
					t.Fatalf("P11.1: %v is not taken", sizes)
				}
				for _, k := range orders(l) {
					thereAndBack(t, p, k)
				}
			}
		}
	}
	for _, p := range []api.Packet{four(0), four(0, both()...), with(four(0), func(p *api.Packet) { p.DF = true }), with(four(60), func(p *api.Packet) { p.DF = true })} {
		thereAndBack(t, p, []api.Packet{p})
	}
}

func TestThereAndBack(t *testing.T) {
	s := source(6)
	for range 2000 {
		p := s.packet()
		if p.V == 6 {
			continue
		}
		p.Off, p.More = 0, false
		l, _ := s.again(t, []api.Packet{p})
		l, mtu := s.again(t, l)
		if !Is(p, mtu, l) {
			t.Fatalf("P11.5: %v is not taken for %d", lengths(l), mtu)
		}
		// Each list is joined twice a packet: the longest ones would take their time.
		if len(l) <= 60 {
			thereAndBack(t, p, s.shuffled(l))
		} else if got, e := Join(s.shuffled(l)); e != api.OK || !same(got, p) {
			t.Fatalf("P11.4: %d packets: %d bytes, %d", len(l), len(got.Data), e)
		}
	}
}

// TestEverySet holds Join against the model for all lists of up to four of some small fragments.
func TestEverySet(t *testing.T) {
	for _, few := range [][]api.Packet{
		{at(0, 8, true), at(0, 16, true), at(0, 0, false), at(0, 12, false), at(8, 8, true), at(8, 4, false), at(8, 16, true), at(16, 8, true), at(16, 1, false), at(24, 8, false)},
		{at6(0, 8, true), with(at6(0, 8, true), func(p *api.Packet) { p.ID = 0 }), six(0), six(12), at6(0, 0, false), at6(8, 8, true), at6(8, 4, false), at6(16, 1, false), at(8, 4, false)},
	} {
		var l []api.Packet
		told := map[api.Errno]int{}
		var all func(int)
		all = func(left int) {
			told[checkJoin(t, "every set", l)]++
			if left == 0 {
				return
			}
			for _, q := range few {
				l = append(l, q)
				all(left - 1)
				l = l[:len(l)-1]
			}
		}
		all(4)
		if told[api.OK] < 8 || told[api.ErrGap] < 8 || told[api.ErrArg] < 8 {
			t.Errorf("too few of one kind: %v", told)
		}
	}
}

func TestJoinOfRandomLists(t *testing.T) {
	s := source(8)
	told := map[api.Errno]int{}
	for range 20000 {
		p := four(8*(1+s.below(6)) + s.below(8)*s.below(2))
		if s.chance() {
			p = with(six(len(p.Data)), func(p *api.Packet) { p.Frag, p.ID = true, 3 })
		}
		l := s.shuffled(parts(p, s.parting(len(p.Data), 3)...))
		switch i := s.below(len(l)); s.below(6) {
		case 0:
			l = without(l, i)
		case 1:
			l = append(l, l[i])
		case 2:
			l[i].Off = 8 * s.below(8)
		case 3:
			l[i].More = s.chance()
		case 4:
			l[i].Data = s.bytes(s.below(24))
		}
		told[checkJoin(t, "random", l)]++
	}
	if told[api.OK] < 3000 || told[api.ErrGap] < 1000 || told[api.ErrArg] < 1000 {
		t.Errorf("too few of one kind: %v", told)
	}
}
