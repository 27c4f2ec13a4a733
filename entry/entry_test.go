package entry

import (
	"bytes"
	"math"
	"testing"

	"mosaic/api"
)

// step is a Put, what it has to say, and what the entry has behind it.
type step struct {
	p     api.Packet
	says  int
	bytes int
	holes int
}

// hold runs a script on an entry of the version, beside its model.
func hold(t *testing.T, name string, v int, steps ...step) {
	t.Run(name, func(t *testing.T) {
		k := keyOf(packet(v, 0, 0, false))
		e, m := New(k, 5), newModel(k, 5)
		for i, s := range steps {
			if says := both(t, e, m, s.p); says != s.says {
				t.Fatalf("P14.1: step %d: Put(%s) = %d, want %d", i, brief(s.p), says, s.says)
			}
			if e.Bytes() != s.bytes || e.Holes() != s.holes {
				t.Fatalf("P14.3: step %d: %d bytes, %d holes; want %d, %d", i, e.Bytes(), e.Holes(), s.bytes, s.holes)
			}
		}
	})
}

func taken(p api.Packet, bytes, holes int) step { return step{p, api.Taken, bytes, holes} }
func done(p api.Packet, bytes int) step         { return step{p, api.Done, bytes, 0} }
func twin(p api.Packet, bytes, holes int) step  { return step{p, api.Twin, bytes, holes} }
func ignored(p api.Packet, b, holes int) step   { return step{p, api.Ignored, b, holes} }
func poisons(p api.Packet) step                 { return step{p, api.Poisoned, 0, 0} }
func swallowed(p api.Packet) step               { return step{p, api.Swallowed, 0, 0} }

// text is a fragment that says other bytes than the tests' datagrams do.
func text(p api.Packet, data string) api.Packet {
	p.Data = []byte(data)
	return p
}

func TestExamples(t *testing.T) {
	a, b, q := text(four(0, 0, true), "abcdefgh"), text(four(8, 0, true), "ijklmnop"), text(four(16, 0, false), "q")
	hold(t, "1", 4, taken(b, 8, 2), taken(q, 9, 1), done(a, 17), twin(a, 17, 0), poisons(text(b, "ijklmnoX")), swallowed(a), swallowed(b), swallowed(q))
	last := text(four(8, 0, false), "ijklmnop")
	hold(t, "2", 4, taken(a, 8, 1), taken(b, 16, 1), done(last, 16), ignored(text(four(16, 0, true), "q"), 16, 0), poisons(text(four(24, 0, false), "r")))
	both := text(a, "abcdefghijklmnop")
	hold(t, "3", 4, taken(a, 8, 1), taken(both, 16, 1))
	hold(t, "3, version 6", 6, taken(text(six(0, 0, true), "abcdefgh"), 8, 1), poisons(text(six(0, 0, true), "abcdefghijklmnop")))
	hold(t, "3, an end below", 4, taken(text(b, "ijklmnopabcdefgh"), 16, 2), poisons(last))
	hold(t, "4", 4, taken(four(65528, 7, false), 7, 1), poisons(a))
	hold(t, "4, version 6", 6, taken(six(65528, 7, false), 7, 1), taken(six(0, 8, true), 15, 1))
	hold(t, "5", 4, ignored(four(0, 8, false), 0, 1), ignored(with(a, func(p *api.Packet) { p.ID = 8 }), 0, 1))
	hold(t, "5, version 6", 6, ignored(six(0, 8, false), 0, 1))
}

func TestWholeOfTheExample(t *testing.T) {
	a, b, q := text(four(0, 0, true), "abcdefgh"), text(four(8, 0, true), "ijklmnop"), text(four(16, 0, false), "q")
	e := New(keyOf(a), 5)
	for _, p := range []api.Packet{b, q} {
		e.Put(p)
		if w, is := e.Whole(); is || !same(w, api.Packet{}) {
			t.Errorf("P14.1: Whole of what is not done: %v, %v", w, is)
		}
	}
	e.Put(a)
	if w, is := e.Whole(); !is || !same(w, text(four(0, 0, false), "abcdefghijklmnopq")) {
		t.Errorf("P14.1: Whole = %v, %v", w, is)
	}
}

func TestNew(t *testing.T) {
	keys := []api.Key{{}, keyOf(four(0, 0, false)), keyOf(six(0, 0, false)), {V: 5, Proto: -1}, {V: 4, Src: api.Addr{V: 6}, ID: 1 << 31}, {V: math.MinInt, Proto: math.MaxInt, ID: math.MaxUint32}}
	for _, k := range keys {
		for _, at := range []int64{0, 5, -1, math.MinInt64, math.MaxInt64, api.MaxTick + 1} {
			e := New(k, at)
			if e == nil {
				t.Fatal("P14.1: New is nil")
			}
			tells(t, e, newModel(k, at))
			if e.Holes() != 1 || e.Bytes() != 0 {
				t.Errorf("P14.1: a new entry has %d holes, %d bytes", e.Holes(), e.Bytes())
			}
			e.Poison()
			e.Poison()
			if e.Key() != k || e.Born() != at || !e.IsPoisoned() || e.Holes() != 0 || e.Put(api.Packet{}) != api.Ignored {
				t.Errorf("P14.4: a poisoned entry of %v", k)
			}
		}
	}
}

// A key that no right packet has gets no fragment.
func TestKeysOfNoPacket(t *testing.T) {
	for what, change := range map[string]func(*api.Packet){
		"version":       func(p *api.Packet) { p.V = 5 },
		"other version": func(p *api.Packet) { p.V = 10 - p.V },
		"long ID":       func(p *api.Packet) { p.V, p.ID = 4, 65536 },
		"protocol 44":   func(p *api.Packet) { p.V, p.Proto = 6, 44 },
		"protocol 256":  func(p *api.Packet) { p.Proto = 256 },
		"source":        func(p *api.Packet) { p.Src.V = 5 },
		"destination":   func(p *api.Packet) { p.Dst = api.Addr{} },
	} {
		for _, p := range []api.Packet{four(8, 8, true), six(8, 8, true)} {
			p = with(p, change)
			e := New(keyOf(p), 0)
			if says := e.Put(p); says != api.Ignored || e.Bytes() != 0 || e.Holes() != 1 {
				t.Errorf("P14.1: %s: %d", what, says)
			}
		}
	}
}

// none are packets that are no fragments for an entry of the key of four or six.
func none(v int) map[string]api.Packet {
	p := packet(v, 8, 8, true)
	l := map[string]api.Packet{
		"zero":               {},
		"whole":              packet(v, 0, 16, false),
		"whole, empty":       packet(v, 0, 0, false),
		"other version":      packet(10-v, 8, 8, true),
		"no data, more":      packet(v, 8, 0, true),
		"no data, at 0":      packet(v, 0, 0, true),
		"no data, the last":  packet(v, 8, 0, false),
		"7 bytes and more":   packet(v, 8, 7, true),
		"off 4":              packet(v, 4, 8, true),
		"off -8":             packet(v, -8, 8, true),
		"off 65528, 8 bytes": packet(v, 65528, 8, true),
		"off 65536":          packet(v, 65536, 8, true),
		"off far":            with(p, func(p *api.Packet) { p.Off = math.MaxInt - 7 }),
		"off far below":      with(p, func(p *api.Packet) { p.Off = math.MinInt }),
		"65535 to 65536":     packet(v, 65528, 9, false),
		"ID":                 with(p, func(p *api.Packet) { p.ID++ }),
		"protocol":           with(p, func(p *api.Packet) { p.Proto++ }),
		"source":             with(p, func(p *api.Packet) { p.Src.B[3]++ }),
		"destination":        with(p, func(p *api.Packet) { p.Dst.B[3]++ }),
		"exchanged":          with(p, func(p *api.Packet) { p.Src, p.Dst = p.Dst, p.Src }),
		"TTL 256":            with(p, func(p *api.Packet) { p.TTL = 256 }),
		"TOS -1":             with(p, func(p *api.Packet) { p.TOS = -1 }),
		"version 0":          with(p, func(p *api.Packet) { p.V = 0 }),
	}
	if v == 4 {
		l["flow"] = with(p, func(p *api.Packet) { p.Flow = 1 })
		l["fragment header"] = with(p, func(p *api.Packet) { p.Frag = true })
		l["options, 3 bytes"] = with(p, func(p *api.Packet) { p.Opts = []byte{1, 1, 1} })
		l["options, 44 bytes"] = with(p, func(p *api.Packet) { p.Opts = bytes.Repeat([]byte{1}, 44) })
		l["options, too long"] = with(p, func(p *api.Packet) { p.Opts = []byte{7, 5, 0, 0} })
		l["bytes of the address"] = with(p, func(p *api.Packet) { p.Src.B[4] = 1 })
	} else {
		l["flow"] = with(p, func(p *api.Packet) { p.Flow = 1 << 20 })
		l["no fragment header"] = with(p, func(p *api.Packet) { p.Frag = false })
		l["whole, no fragment header"] = with(packet(v, 0, 8, false), func(p *api.Packet) { p.Frag, p.ID = false, 0 })
		l["DF"] = with(p, func(p *api.Packet) { p.DF = true })
		l["options"] = with(p, func(p *api.Packet) { p.Opts = []byte{1, 1, 1, 1} })
	}
	return l
}

func TestIgnored(t *testing.T) {
	for _, v := range []int{4, 6} {
		begun := []step{taken(packet(v, 24, 8, true), 8, 2), taken(packet(v, 8, 8, true), 16, 3)}
		ended := append([]step{taken(packet(v, 32, 3, false), 3, 1)}, taken(packet(v, 0, 8, true), 11, 1))
		all := []step{taken(packet(v, 0, 16, true), 16, 1), done(packet(v, 16, 3, false), 19)}
		gone := []step{taken(packet(v, 8, 3, false), 3, 1), poisons(packet(v, 8, 16, true))}
		for what, p := range none(v) {
			hold(t, what+", new", v, ignored(p, 0, 1))
			hold(t, what+", begun", v, append(begun[:2:2], ignored(p, 16, 3))...)
			hold(t, what+", ended", v, append(ended[:2:2], ignored(p, 11, 1))...)
			hold(t, what+", done", v, append(all[:2:2], ignored(p, 19, 0))...)
			hold(t, what+", poisoned", v, append(gone[:2:2], ignored(p, 0, 0))...)
		}
	}
}

// An ID of version 6 may have 32 bits, and one of version 4 has 16.
func TestGreatIDs(t *testing.T) {
	for _, p := range []api.Packet{with(four(8, 8, true), func(p *api.Packet) { p.ID = 65535 }), with(six(8, 8, true), func(p *api.Packet) { p.ID = math.MaxUint32 }), with(six(8, 8, true), func(p *api.Packet) { p.ID = 0 })} {
		e := New(keyOf(p), 0)
		if says := e.Put(p); says != api.Taken {
			t.Errorf("P14.1: ID %d: %d", p.ID, says)
		}
	}
}

// Step 3.
func TestEnds(t *testing.T) {
	for _, v := range []int{4, 6} {
		at := func(off, n int, more bool) api.Packet { return packet(v, off, n, more) }
		hold(t, "another end above", v, taken(at(16, 3, false), 3, 1), poisons(at(24, 1, false)), swallowed(at(16, 3, false)))
		hold(t, "another end below", v, taken(at(16, 3, false), 3, 1), poisons(at(8, 8, false)), swallowed(at(0, 8, true)))
		hold(t, "another end within the unit", v, taken(at(16, 3, false), 3, 1), poisons(at(16, 4, false)))
		hold(t, "another end within what is there", v, taken(at(16, 8, false), 8, 1), poisons(at(16, 7, false)))
		hold(t, "another end, all there", v, taken(at(0, 16, true), 16, 1), done(at(16, 8, false), 24), poisons(at(8, 8, false)))
		hold(t, "an end below what is there", v, taken(at(24, 8, true), 8, 2), poisons(at(8, 8, false)))
		hold(t, "an end just below what is there", v, taken(at(24, 8, true), 8, 2), poisons(at(8, 16, false)))
		hold(t, "an end within what is there", v, taken(at(8, 16, true), 16, 2), poisons(at(8, 9, false)))
		hold(t, "an end just behind what is there", v, taken(at(0, 8, true), 8, 1), done(at(8, 8, false), 16))
		hold(t, "an end behind a hole", v, taken(at(0, 8, true), 8, 1), taken(at(16, 8, false), 16, 1))
		hold(t, "one with more above the end", v, taken(at(16, 3, false), 3, 1), poisons(at(24, 8, true)))
		hold(t, "one with more over the end", v, taken(at(16, 3, false), 3, 1), poisons(at(16, 8, true)))
		hold(t, "one with more far above the end", v, taken(at(8, 8, false), 8, 1), poisons(at(65520, 8, true)))
		hold(t, "one with more just ahead of the end's", v, taken(at(16, 3, false), 3, 1), taken(at(8, 8, true), 11, 1))
		hold(t, "another end and other bytes", v, taken(at(16, 3, false), 3, 1), poisons(spoilt(at(16, 4, false), 16)))
	}
	hold(t, "one with more up to the end", 4, taken(four(8, 8, false), 8, 1), done(four(0, 16, true), 16))
	hold(t, "one with more just at the end", 4, taken(four(8, 8, false), 8, 1), twin(four(8, 8, true), 8, 1))
	hold(t, "one with more just at the end, version 6", 6, taken(six(8, 8, false), 8, 1), poisons(six(8, 8, true)))
	hold(t, "one with more up to the end, version 6", 6, taken(six(8, 8, false), 8, 1), poisons(six(0, 16, true)))
}

// Step 4: options of First alone count, those of others do not.
func TestTooLong(t *testing.T) {
	for opts := 0; opts <= 40; opts += 4 {
		first := with(four(0, 8, true), func(p *api.Packet) { p.Opts = bytes.Repeat([]byte{1}, opts) })
		most := 65535 - 20 - opts
		for end := most - 2; end <= most+2; end++ {
			off := (end - 1) / 8 * 8
			last := with(four(off, end-off, false), func(p *api.Packet) { p.Opts = bytes.Repeat([]byte{1}, 40-opts) })
			if end <= most {
				hold(t, "fits", 4, taken(first, 8, 1), taken(last, 8+end-off, 1), twin(first, 8+end-off, 1), twin(last, 8+end-off, 1))
				hold(t, "fits, the end ahead", 4, taken(last, end-off, 1), taken(first, 8+end-off, 1))
				continue
			}
			hold(t, "too long", 4, taken(first, 8, 1), poisons(last), swallowed(first))
			hold(t, "too long, the end ahead", 4, taken(last, end-off, 1), poisons(first), swallowed(last))
			hold(t, "too long, without First", 4, taken(last, end-off, 1), taken(four(8, 8, true), 8+end-off, 2))
			hold(t, "too long, without the end", 4, taken(first, 8, 1), taken(four(65504, 24, true), 32, 2))
		}
	}
	// The one that came first is First: a later one, with a longer head, makes nothing too long.
	long := with(four(0, 16, true), func(p *api.Packet) { p.Opts = bytes.Repeat([]byte{1}, 40) })
	hold(t, "a longer head behind First", 4, taken(four(0, 8, true), 8, 1), taken(long, 16, 1), taken(four(65512, 3, false), 19, 1))
	hold(t, "a longer head behind both", 4, taken(four(0, 8, true), 8, 1), taken(four(65512, 3, false), 11, 1), taken(long, 19, 1), twin(long, 19, 1))
	hold(t, "a longer head as First", 4, taken(long, 16, 1), twin(four(0, 8, true), 16, 1), poisons(four(65512, 3, false)))
	hold(t, "version 6 has no such end", 6, taken(six(0, 8, true), 8, 1), taken(six(65528, 7, false), 15, 1), done(six(8, 65520, true), 65535))
}

// Step 5.
func TestOverlapsOfVersion6(t *testing.T) {
	begun := []step{taken(six(8, 16, true), 16, 2)}
	for _, p := range []api.Packet{six(0, 16, true), six(0, 24, true), six(0, 32, true), six(8, 8, true), six(16, 8, true), six(16, 16, true), six(8, 24, true), six(8, 16, false), six(8, 17, false), six(16, 9, false), spoilt(six(8, 16, true), 8), spoilt(six(8, 16, true), 23)} {
		hold(t, brief(p), 6, append(begun[:1:1], poisons(p), swallowed(p), swallowed(six(8, 16, true)))...)
	}
	for _, p := range []api.Packet{six(0, 8, true), six(24, 8, true)} {
		hold(t, brief(p), 6, append(begun[:1:1], taken(p, 24, p.Off/24+1), twin(p, 24, p.Off/24+1))...)
	}
	// Whatever else is unlike in it, it is just the same fragment.
	again := with(six(8, 16, true), func(p *api.Packet) { p.TTL, p.TOS, p.Flow = 1, 2, 3 })
	hold(t, "again", 6, append(begun[:1:1], twin(six(8, 16, true), 16, 2), twin(again, 16, 2))...)
	hold(t, "the last again", 6, taken(six(8, 3, false), 3, 1), twin(six(8, 3, false), 3, 1), poisons(spoilt(six(8, 3, false), 10)))
	hold(t, "two that are there, as one", 6, taken(six(0, 8, true), 8, 1), taken(six(8, 8, true), 16, 1), poisons(six(0, 16, true)))
	hold(t, "the last two, as one", 6, taken(six(8, 8, true), 8, 2), taken(six(16, 1, false), 9, 1), poisons(six(8, 9, false)))
	hold(t, "the end alone is new", 6, taken(six(8, 8, true), 8, 2), poisons(six(8, 8, false)))
}

// Step 6.
func TestOverlapsOfVersion4(t *testing.T) {
	begun := []step{taken(four(8, 16, true), 16, 2)}
	for _, p := range []api.Packet{four(0, 16, true), four(0, 24, true), four(0, 32, true), four(16, 16, true), four(8, 24, true), four(8, 17, false), four(16, 9, false)} {
		for off := max(8, p.Off); off < min(24, p.Off+len(p.Data)); off++ {
			hold(t, brief(p), 4, append(begun[:1:1], poisons(spoilt(p, off)), swallowed(p))...)
		}
	}
	hold(t, "ahead and over", 4, append(begun[:1:1], taken(four(0, 16, true), 24, 1), twin(four(0, 24, true), 24, 1))...)
	hold(t, "over and behind", 4, append(begun[:1:1], taken(four(16, 16, true), 24, 2), twin(four(8, 24, true), 24, 2))...)
	hold(t, "around", 4, append(begun[:1:1], taken(four(0, 32, true), 32, 1))...)
	hold(t, "over several", 4, taken(four(8, 8, true), 8, 2), taken(four(24, 8, true), 16, 3), taken(four(40, 8, true), 24, 4), taken(four(0, 56, true), 56, 1), twin(four(16, 8, true), 56, 1))
	hold(t, "over several, another byte in the last", 4, taken(four(8, 8, true), 8, 2), taken(four(24, 8, true), 16, 3), poisons(spoilt(four(0, 40, true), 31)))
	// A byte that is new may be any.
	hold(t, "another byte that is new", 4, append(begun[:1:1], taken(spoilt(four(0, 16, true), 7), 24, 1), poisons(four(0, 8, true)))...)
	hold(t, "within", 4, append(begun[:1:1], twin(four(8, 8, true), 16, 2), twin(four(16, 8, true), 16, 2), poisons(spoilt(four(16, 8, true), 23)))...)
	hold(t, "the end alone is new", 4, append(begun[:1:1], taken(four(16, 8, false), 16, 1), twin(four(16, 8, false), 16, 1), done(four(0, 8, true), 24))...)
	hold(t, "the end alone is new, another byte", 4, append(begun[:1:1], poisons(spoilt(four(16, 8, false), 16)))...)
	hold(t, "the end and some", 4, append(begun[:1:1], taken(four(16, 9, false), 17, 1), twin(four(8, 17, false), 17, 1), twin(four(8, 16, true), 17, 1))...)
	hold(t, "other fields", 4, append(begun[:1:1], twin(with(four(8, 16, true), func(p *api.Packet) { p.TTL, p.TOS, p.DF, p.Opts = 1, 2, true, []byte{1, 1, 1, 0} }), 16, 2))...)
	hold(t, "behind done", 4, taken(four(0, 8, true), 8, 1), done(four(8, 3, false), 11), twin(four(8, 3, false), 11, 0), twin(four(0, 8, true), 11, 0), poisons(spoilt(four(0, 8, true), 0)))
}

func TestHolesAreCounted(t *testing.T) {
	for _, v := range []int{4, 6} {
		at := func(off, n int, more bool) api.Packet { return packet(v, off, n, more) }
		hold(t, "from the front", v, taken(at(0, 8, true), 8, 1), taken(at(8, 8, true), 16, 1), taken(at(24, 8, true), 24, 2), taken(at(16, 8, true), 32, 1))
		hold(t, "from behind", v, taken(at(24, 1, false), 1, 1), taken(at(8, 8, true), 9, 2), taken(at(16, 8, true), 17, 1), done(at(0, 8, true), 25))
		hold(t, "the last place", v, taken(at(65520, 8, true), 8, 2), taken(at(65512, 8, true), 16, 2), taken(at(65528, 1, false), 17, 1))
		// All that may come with More: one is still behind it.
		hold(t, "all but the last", v, taken(at(0, 32768, true), 32768, 1), taken(at(32768, 32760, true), 65528, 1))
	}
	hold(t, "all of version 6", 6, taken(six(0, 32768, true), 32768, 1), taken(six(32768, 32760, true), 65528, 1), done(six(65528, 7, false), 65535))
}

// firsts are fragments with Off 0 that are unlike in all that may be.
func firsts(v int) (api.Packet, api.Packet) {
	a := with(packet(v, 0, 8, true), func(p *api.Packet) { p.TTL, p.TOS = 9, 255 })
	b := with(packet(v, 0, 16, true), func(p *api.Packet) { p.TTL, p.TOS = 0, 3 })
	if v == 4 {
		a.DF, a.Opts, b.Opts = true, []byte{130, 4, 1, 2, 7, 3, 4, 0}, []byte{1, 1, 1, 0}
	} else {
		a.Flow, b.Flow = 1<<20-1, 1
	}
	return a, b
}

func TestFirst(t *testing.T) {
	for _, v := range []int{4, 6} {
		a, b := firsts(v)
		for i, first := range []api.Packet{a, b} {
			e := New(keyOf(a), 0)
			e.Put(with(packet(v, 16, 3, false), func(p *api.Packet) { p.TTL, p.TOS = 77, 77 }))
			if p, is := e.First(); is || !same(p, api.Packet{}) {
				t.Errorf("P14.1: First ahead of it: %v", p)
			}
			e.Put(first)
			if i == 0 && v == 4 {
				e.Put(b)
			} else if i == 0 {
				e.Put(packet(v, 8, 8, true))
			}
			if p, is := e.First(); !is || !same(p, first) {
				t.Errorf("P14.1: First = %v, want %v", p, first)
			}
			want := first
			want.More, want.Data = false, said(0, 19)
			if v == 6 {
				want.Frag, want.ID = false, 0
			}
			if p, is := e.Whole(); !is || !same(p, want) {
				t.Errorf("P14.1: Whole = %v, want %v", p, want)
			}
		}
	}
}

// P14.4: however it was poisoned, it stays so.
func TestForEver(t *testing.T) {
	for _, v := range []int{4, 6} {
		first, mid, last := packet(v, 0, 8, true), packet(v, 8, 8, true), packet(v, 16, 3, false)
		for what, ahead := range map[string][]api.Packet{
			"another byte":      {first, mid, spoilt(mid, 9)},
			"another end":       {first, last, packet(v, 24, 1, false)},
			"an end below":      {mid, packet(v, 24, 8, true), last},
			"one above the end": {last, packet(v, 24, 8, true)},
			"done, then spoilt": {first, mid, last, spoilt(first, 0)},
		} {
			e := New(keyOf(first), 77)
			for _, p := range ahead {
				e.Put(p)
			}
			for range 2 {
				stays(t, what, v, e)
				e.Poison()
			}
		}
		for n, all := 0, []api.Packet{first, mid, last}; n <= len(all); n++ {
			e := New(keyOf(first), 77)
			for _, p := range all[:n] {
				e.Put(p)
			}
			e.Poison()
			stays(t, "Poison", v, e)
		}
	}
}

func stays(t *testing.T, what string, v int, e *Entry) {
	t.Helper()
	for _, p := range append(some(v, 0), some(v, 65504)...) {
		if says := e.Put(p); says != api.Swallowed {
			t.Errorf("P14.4: %s: Put(%s) = %d", what, brief(p), says)
		}
	}
	for why, p := range none(v) {
		if says := e.Put(p); says != api.Ignored {
			t.Errorf("P14.4: %s: Put of what is none (%s) = %d", what, why, says)
		}
	}
	first, begun := e.First()
	whole, done := e.Whole()
	if begun || done || !same(first, api.Packet{}) || !same(whole, api.Packet{}) {
		t.Errorf("P14.4: %s: First %v, Whole %v", what, begun, done)
	}
	if !e.IsPoisoned() || e.Bytes() != 0 || e.Holes() != 0 || e.Born() != 77 || e.Key() != keyOf(packet(v, 0, 0, false)) {
		t.Errorf("P14.4: %s: %v, %d bytes, %d holes", what, e.IsPoisoned(), e.Bytes(), e.Holes())
	}
}
