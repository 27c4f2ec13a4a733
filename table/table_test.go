package table

import (
	"math"
	"slices"
	"testing"

	"mosaic/api"
)

// small is the quota of the chapter's examples.
var small = api.Quota{Entries: 2, Bytes: 100, Holes: 8, Timeout: 10}

// pieces are those of the examples' datagram of 40 bytes, and the datagram.
func pieces(v int, id uint32) (a, b, c, p api.Packet) {
	return packet(v, id, 0, 16, true), packet(v, id, 16, 16, true), packet(v, id, 32, 8, false), datagram(v, id, 40)
}

// step is a Put (or, without a packet, a Tick), what it has to tell, and what the table has behind it.
type step struct {
	p     api.Packet
	now   int64
	told  Told
	keys  []api.Key
	bytes int
}

func list(l ...api.Packet) []api.Packet { return l }

func keysOf(l ...api.Packet) []api.Key {
	var out []api.Key
	for _, p := range l {
		out = append(out, keyOf(p))
	}
	return out
}

// play makes the steps on a new table, beside its model, and hands the table back.
func play(t *testing.T, name string, q api.Quota, steps ...step) *Table {
	t.Helper()
	x, m := made(t, q)
	for i, s := range steps {
		got, e := both(t, x, m, move{s.p, s.now - m.last})
		if e != api.OK || !alike(got, s.told) {
			t.Fatalf("P15.1: %s: step %d: %d, %+v; want %+v", name, i, e, got, s.told)
		}
		if !slices.Equal(x.Keys(), s.keys) || x.Bytes() != s.bytes {
			t.Fatalf("P15.1: %s: step %d: keys %v, %d bytes; want %v, %d", name, i, x.Keys(), x.Bytes(), s.keys, s.bytes)
		}
	}
	return x
}

func TestExamples(t *testing.T) {
	for _, v := range []int{4, 6} {
		a, b, c, p := pieces(v, 7)
		k := keysOf(a)
		taken, twin := Told{Says: api.Taken}, Told{Says: api.Twin}
		x := play(t, "1", small, step{b, 0, taken, k, 16})
		if x.Holes(k[0]) != 2 {
			t.Errorf("P15.1: %d holes", x.Holes(k[0]))
		}
		x = play(t, "1", small, step{b, 0, taken, k, 16}, step{b, 1, twin, k, 16}, step{c, 2, taken, k, 24})
		if x.Holes(k[0]) != 1 || x.Poisoned(k[0]) {
			t.Errorf("P15.1: %d holes", x.Holes(k[0]))
		}
		x = play(t, "1", small, step{b, 0, taken, k, 16}, step{b, 1, twin, k, 16}, step{c, 2, taken, k, 24}, step{a, 3, Told{Says: api.Done, Whole: list(p)}, nil, 0})
		if x.Holes(k[0]) != -1 || x.Poisoned(k[0]) {
			t.Error("P15.1: a done one is there")
		}
		play(t, "1", small, step{b, 0, taken, k, 16}, step{c, 2, taken, k, 24}, step{a, 3, Told{Says: api.Done, Whole: list(p)}, nil, 0}, step{a, 4, taken, k, 16}, step{told: Told{}, now: 13, keys: k, bytes: 16}, step{told: Told{Late: list(a)}, now: 14})

		play(t, "2", small, step{p, 0, Told{Whole: list(p)}, nil, 0})
		x = play(t, "2", small, step{a, 0, taken, k, 16}, step{spoilt(a), 0, Told{Says: api.Poisoned}, k, 0}, step{b, 1, Told{Says: api.Swallowed}, k, 0}, step{now: 9, keys: k})
		if x.Holes(k[0]) != 0 || !x.Poisoned(k[0]) {
			t.Error("P15.1: it is not poisoned")
		}
		x = play(t, "2", small, step{a, 0, taken, k, 16}, step{spoilt(a), 0, Told{Says: api.Poisoned}, k, 0}, step{now: 10})
		if x.Holes(k[0]) != -1 || x.Poisoned(k[0]) {
			t.Error("P15.6: a poisoned one stays")
		}

		play(t, "3", small, step{a, 0, taken, k, 16}, step{now: 9, keys: k, bytes: 16}, step{now: 10, told: Told{Late: list(a)}})
		play(t, "3", small, step{b, 0, taken, k, 16}, step{now: 10})
		play(t, "3", small, step{a, 0, taken, k, 16}, step{b, 10, Told{Says: api.Taken, Late: list(a)}, k, 16})

		x1, _, _, _ := pieces(v, 1)
		y, _, _, _ := pieces(v, 2)
		z, _, _, _ := pieces(10-v, 1)
		play(t, "4", small, step{x1, 0, taken, keysOf(x1), 16}, step{y, 0, taken, keysOf(x1, y), 32}, step{z, 0, Told{Says: api.Taken, Gone: keysOf(x1)}, keysOf(y, z), 32})
		play(t, "4", api.Quota{Entries: 2, Bytes: 20, Holes: 8, Timeout: 10}, step{a, 0, taken, k, 16}, step{b, 0, Told{Says: api.Taken, Gone: k}, nil, 0})

		play(t, "5", api.Quota{Entries: 2, Bytes: 100, Holes: 1, Timeout: 10}, step{b, 0, Told{Says: api.Poisoned}, k, 0})
		play(t, "5", api.Quota{Entries: 2, Bytes: 100, Holes: 2, Timeout: 10}, step{b, 0, taken, k, 16})
	}
}

func TestNew(t *testing.T) {
	ok := small
	change := func(f func(*api.Quota)) api.Quota {
		q := ok
		f(&q)
		return q
	}
	for _, n := range []int{math.MinInt, -1, 0, 65, 66, math.MaxInt} {
		refused(t, change(func(q *api.Quota) { q.Entries = n }))
	}
	for _, n := range []int{math.MinInt, -1, 1<<20 + 1, math.MaxInt} {
		refused(t, change(func(q *api.Quota) { q.Bytes = n }))
	}
	for _, n := range []int{math.MinInt, -1, 0, 8193, math.MaxInt} {
		refused(t, change(func(q *api.Quota) { q.Holes = n }))
	}
	for _, n := range []int64{math.MinInt64, -1, 0, 1<<40 + 1, math.MaxInt64} {
		refused(t, change(func(q *api.Quota) { q.Timeout = n }))
	}
	refused(t, api.Quota{})
	for _, q := range []api.Quota{{Entries: 1, Bytes: 0, Holes: 1, Timeout: 1}, {Entries: 64, Bytes: 1 << 20, Holes: 8192, Timeout: 1 << 40}} {
		x, m := made(t, q)
		tells(t, x, m)
		if len(x.Keys()) != 0 || x.Bytes() != 0 || x.Holes(api.Key{}) != -1 || x.Poisoned(api.Key{}) {
			t.Error("P15.1: a new table is not empty")
		}
	}
}

func refused(t *testing.T, q api.Quota) {
	t.Helper()
	if x, e := New(q); x != nil || e != api.ErrArg {
		t.Errorf("P15.1: New(%v): %v, %d", q, x, e)
	}
}

// isRefused tells whether a call answered ErrArg, and nothing beside it.
func isRefused(told Told, e api.Errno) bool { return e == api.ErrArg && alike(told, Told{}) }

func TestTicks(t *testing.T) {
	a, b, _, whole := pieces(4, 7)
	x, m := made(t, small)
	for _, last := range []int64{0, 5, 5, 11, 1<<40 - 3, 1<<40 - 1, 1 << 40} {
		both(t, x, m, move{wait: last - m.last})
		both(t, x, m, move{p: a})
		for _, now := range []int64{math.MinInt64, -1, last - 1, 1<<40 + 1, math.MaxInt64} {
			for _, p := range []api.Packet{a, b, whole} {
				if told, e := x.Put(p, now); !isRefused(told, e) {
					t.Errorf("P15.1: Put at %d behind %d: %d, %+v", now, last, e, told)
				}
				tells(t, x, m)
			}
			if told, e := x.Tick(now); !isRefused(told, e) {
				t.Errorf("P15.1: Tick(%d) behind %d: %d, %+v", now, last, e, told)
			}
			tells(t, x, m)
		}
	}
}

// A whole packet moves the clock too.
func TestEachCallMovesTheClock(t *testing.T) {
	a, _, _, whole := pieces(6, 7)
	for _, p := range []api.Packet{a, whole, {}} {
		x, m := made(t, small)
		both(t, x, m, move{p: p, wait: 8})
		if told, e := x.Tick(7); !isRefused(told, e) {
			t.Errorf("P15.1: Tick(7) behind 8: %d, %+v", e, told)
		}
		if told, e := x.Put(a, 7); !isRefused(told, e) {
			t.Errorf("P15.1: Put at 7 behind 8: %d, %+v", e, told)
		}
		both(t, x, m, move{p: a})
	}
}

// wrong are packets that are not right.
func wrong(v int) []api.Packet {
	p := packet(v, 7, 0, 16, true)
	changes := []func(*api.Packet){
		func(p *api.Packet) { *p = api.Packet{} },
		func(p *api.Packet) { p.V = 5 },
		func(p *api.Packet) { p.V = 10 - p.V },
		func(p *api.Packet) { p.Src.V = 10 - v },
		func(p *api.Packet) { p.Dst = api.Addr{} },
		func(p *api.Packet) { p.TTL = 256 },
		func(p *api.Packet) { p.TOS = -1 },
		func(p *api.Packet) { p.Proto = 256 },
		func(p *api.Packet) { p.Off = 4 },
		func(p *api.Packet) { p.Off = -8 },
		func(p *api.Packet) { p.Off = math.MaxInt - 7 },
		func(p *api.Packet) { p.Off = 65528 },
		func(p *api.Packet) { p.Data = nil },
		func(p *api.Packet) { p.Data = p.Data[:15] },
		func(p *api.Packet) { p.Off, p.More, p.Data = 8, false, nil },
		func(p *api.Packet) { p.More, p.Data = false, make([]byte, 65536) },
		func(p *api.Packet) { p.Opts = []byte{1} },
		func(p *api.Packet) { p.Frag = !p.Frag },
		func(p *api.Packet) { p.Flow = 1 << 20 },
	}
	var l []api.Packet
	for _, change := range changes {
		l = append(l, with(p, change))
	}
	return l
}

func TestWrongPackets(t *testing.T) {
	for _, v := range []int{4, 6} {
		a, b, _, _ := pieces(v, 7)
		for i, bad := range wrong(v) {
			x, m := made(t, small)
			both(t, x, m, move{p: a, wait: 3})
			for _, now := range []int64{0, 3, 4, 13, 90, 1 << 40} {
				if told, e := x.Put(bad, now); !isRefused(told, e) {
					t.Fatalf("P15.1: %d: Put(%+v): %d, %+v", i, bad, e, told)
				}
				tells(t, x, m)
			}
			// Neither the tick nor the clock of the refused ones is left.
			both(t, x, m, move{p: b, wait: 1})
			if x.Bytes() != 32 {
				t.Errorf("P15.1: %d bytes behind a refused packet", x.Bytes())
			}
		}
	}
}

// A whole packet asks no entry, of whatever key.
func TestWholePackets(t *testing.T) {
	for _, v := range []int{4, 6} {
		a, b, c, p := pieces(v, 7)
		atom := packet(v, 7, 0, 40, false)
		k := keysOf(a)
		taken := Told{Says: api.Taken}
		one := Told{Whole: list(p)}
		play(t, "beside an entry", small, step{a, 0, taken, k, 16}, step{atom, 1, one, k, 16}, step{b, 1, taken, k, 32}, step{c, 2, Told{Says: api.Done, Whole: list(p)}, nil, 0})
		play(t, "beside a poisoned one", small, step{a, 0, taken, k, 16}, step{spoilt(a), 0, Told{Says: api.Poisoned}, k, 0}, step{atom, 1, one, k, 0}, step{b, 2, Told{Says: api.Swallowed}, k, 0})
		play(t, "late", small, step{a, 0, taken, k, 16}, step{atom, 10, Told{Whole: list(p), Late: list(a)}, nil, 0})
		play(t, "above Bytes", api.Quota{Entries: 1, Bytes: 0, Holes: 1, Timeout: 1}, step{p, 0, one, nil, 0}, step{atom, 0, one, nil, 0})
		empty := datagram(v, 7, 0)
		play(t, "empty", small, step{packet(v, 7, 0, 0, false), 0, Told{Whole: list(empty)}, nil, 0})
		full := with(p, func(p *api.Packet) {
			p.TOS, p.TTL, p.Data = 33, 0, said(0, 65515)
			if p.V == 6 {
				p.Flow, p.Data = 1<<20-1, said(0, 65535)
			} else {
				p.DF = true
			}
		})
		play(t, "long", small, step{full, 0, Told{Whole: list(full)}, nil, 0})
	}
	o := with(packet(4, 7, 0, 3, false), func(p *api.Packet) { p.Opts = []byte{130, 4, 1, 2} })
	play(t, "options", small, step{o, 0, Told{Whole: list(o)}, nil, 0})
}

// The datagram is told though its bytes are more than Bytes with the last piece, and pushes nothing out.
func TestDoneAheadOfTheQuota(t *testing.T) {
	for _, v := range []int{4, 6} {
		a, b, c, p := pieces(v, 7)
		other := packet(v, 8, 8, 8, true)
		q := api.Quota{Entries: 2, Bytes: 40, Holes: 8, Timeout: 10}
		taken := Told{Says: api.Taken}
		play(t, "done", q, step{other, 0, taken, keysOf(other), 8}, step{b, 0, taken, keysOf(other, a), 24}, step{a, 1, taken, keysOf(other, a), 40}, step{c, 1, Told{Says: api.Done, Whole: list(p)}, keysOf(other), 8})
		q.Bytes = 39
		play(t, "one byte less", q, step{other, 0, taken, keysOf(other), 8}, step{b, 0, taken, keysOf(other, a), 24}, step{a, 1, Told{Says: api.Taken, Gone: keysOf(other)}, keysOf(a), 32}, step{c, 1, Told{Says: api.Done, Whole: list(p)}, nil, 0})
	}
}

// The one that is done goes out of the midst, and the others keep their order.
func TestOrderBehindTheDone(t *testing.T) {
	q := api.Quota{Entries: 3, Bytes: 100, Holes: 8, Timeout: 10}
	x, m := made(t, q)
	last := func(id uint32) api.Packet { return packet(4, id, 8, 3, false) }
	for id := range uint32(3) {
		both(t, x, m, move{p: last(id), wait: 1})
	}
	both(t, x, m, move{p: packet(4, 1, 0, 8, true)})
	if !slices.Equal(x.Keys(), keysOf(last(0), last(2))) {
		t.Errorf("P15.1: Keys: %v", x.Keys())
	}
	both(t, x, m, move{p: last(1)})
	if !slices.Equal(x.Keys(), keysOf(last(0), last(2), last(1))) {
		t.Errorf("P15.1: Keys: %v", x.Keys())
	}
	if told, _ := both(t, x, m, move{p: last(9)}); !slices.Equal(told.Gone, keysOf(last(0))) {
		t.Errorf("P15.5: Gone: %v", told.Gone)
	}
}

// Keys that differ in one field alone are of two datagrams.
func TestKeysApart(t *testing.T) {
	a := packet(4, 7, 0, 8, true)
	for i, change := range []func(*api.Packet){
		func(p *api.Packet) { p.ID = 8 },
		func(p *api.Packet) { p.Proto = 1 },
		func(p *api.Packet) { p.Src.B[3] = 9 },
		func(p *api.Packet) { p.Dst.B[3] = 9 },
		func(p *api.Packet) { p.Src, p.Dst = p.Dst, p.Src },
		func(p *api.Packet) { *p = packet(6, 7, 0, 8, true) },
	} {
		b := with(packet(4, 7, 8, 3, false), change)
		if b.V == 6 {
			b = packet(6, 7, 8, 3, false)
		}
		x, m := made(t, small)
		both(t, x, m, move{p: a})
		if told, _ := both(t, x, m, move{p: b}); told.Says != api.Taken || len(x.Keys()) != 2 {
			t.Errorf("P15.4: change %d: %+v, %v", i, told, x.Keys())
		}
	}
}

// Fields that are not of the key are of one datagram, whatever they are.
func TestOtherFieldsAreNoKey(t *testing.T) {
	for _, v := range []int{4, 6} {
		a := packet(v, 7, 0, 8, true)
		b := with(packet(v, 7, 8, 3, false), func(p *api.Packet) {
			p.TTL, p.TOS, p.DF = 3, 4, v == 4
			if v == 6 {
				p.Flow = 5
			} else {
				p.Opts = []byte{130, 4, 1, 2}
			}
		})
		play(t, "fields", small, step{b, 0, Told{Says: api.Taken}, keysOf(a), 3}, step{a, 0, Told{Says: api.Done, Whole: list(datagram(v, 7, 11))}, nil, 0})
	}
}

func TestOldestGoes(t *testing.T) {
	for _, entries := range []int{1, 2, 5, 63, 64} {
		x, m := made(t, api.Quota{Entries: entries, Bytes: 1 << 20, Holes: 2, Timeout: 1000})
		var sent []api.Packet
		for i := range 150 {
			p := packet(4+2*(i%2), uint32(i), 8*(i%3), 8, true)
			sent = append(sent, p)
			told, _ := both(t, x, m, move{p: p, wait: int64(i % 2)})
			var gone []api.Key
			if i >= entries {
				gone = keysOf(sent[i-entries])
			}
			if told.Says != api.Taken || !slices.Equal(told.Gone, gone) || !slices.Equal(x.Keys(), keysOf(sent[max(0, i+1-entries):]...)) {
				t.Fatalf("P15.5: %d of %d: %+v, keys %v", i, entries, told, x.Keys())
			}
		}
	}
}

// By their bytes several go at once, the poisoned ones among them, and at last the one itself.
func TestBytesPushOut(t *testing.T) {
	q := api.Quota{Entries: 8, Bytes: 48, Holes: 8, Timeout: 100}
	first := func(id uint32, n int) api.Packet { return packet(4, id, 0, n, true) }
	taken, bad := Told{Says: api.Taken}, Told{Says: api.Poisoned}
	a, b, c, d := first(1, 16), first(2, 8), first(3, 16), first(4, 40)
	start := []step{{a, 0, taken, keysOf(a), 16}, {b, 0, taken, keysOf(a, b), 24}, {spoilt(b), 0, bad, keysOf(a, b), 16}, {c, 0, taken, keysOf(a, b, c), 32}}
	then := func(s ...step) []step { return append(slices.Clone(start), s...) }
	play(t, "no more than Bytes", q, then(step{first(4, 16), 0, taken, keysOf(a, b, c, d), 48})...)
	play(t, "the oldest is enough", q, then(step{first(4, 24), 0, Told{Says: api.Taken, Gone: keysOf(a)}, keysOf(b, c, d), 40})...)
	play(t, "a poisoned one goes too", q, then(step{d, 0, Told{Says: api.Taken, Gone: keysOf(a, b, c)}, keysOf(d), 40})...)
	play(t, "its own too", q, then(step{first(4, 56), 0, Told{Says: api.Taken, Gone: keysOf(a, b, c, d)}, nil, 0})...)
	play(t, "its own, the oldest", q, then(step{first(1, 40), 0, Told{Says: api.Taken, Gone: keysOf(a)}, keysOf(b, c), 16})...)
	q.Bytes = 0
	play(t, "no byte", q, step{a, 0, Told{Says: api.Taken, Gone: keysOf(a)}, nil, 0}, step{a, 0, Told{Says: api.Taken, Gone: keysOf(a)}, nil, 0})
	q.Holes = 1
	e, f := packet(4, 5, 8, 8, true), packet(4, 6, 8, 8, true)
	play(t, "no byte, poisoned", q, step{e, 0, bad, keysOf(e), 0}, step{f, 0, bad, keysOf(e, f), 0}, step{a, 0, Told{Says: api.Taken, Gone: keysOf(e, f, a)}, nil, 0})
	q.Entries = 1
	play(t, "poisoned ones are entries", q, step{e, 0, bad, keysOf(e), 0}, step{f, 0, Told{Says: api.Poisoned, Gone: keysOf(e)}, keysOf(f), 0})
}

// Of a pushed out one nothing is told later, and its key is a new one's.
func TestPushedOutAreForgotten(t *testing.T) {
	for _, v := range []int{4, 6} {
		a, b, c, _ := pieces(v, 7)
		o := packet(v, 8, 8, 8, true)
		q := api.Quota{Entries: 1, Bytes: 100, Holes: 8, Timeout: 10}
		taken := Told{Says: api.Taken}
		start := []step{{a, 0, taken, keysOf(a), 16}, {b, 0, taken, keysOf(a), 32}, {o, 5, Told{Says: api.Taken, Gone: keysOf(a)}, keysOf(o), 8}}
		then := func(s ...step) []step { return append(slices.Clone(start), s...) }
		play(t, "not late", q, then(step{now: 10, keys: keysOf(o), bytes: 8}, step{now: 15})...)
		play(t, "not done", q, then(step{c, 6, Told{Says: api.Taken, Gone: keysOf(o)}, keysOf(a), 8}, step{now: 15, keys: keysOf(a), bytes: 8}, step{now: 16})...)
		play(t, "no longer poisoned", q, step{a, 0, taken, keysOf(a), 16}, step{spoilt(a), 0, Told{Says: api.Poisoned}, keysOf(a), 0}, step{o, 0, Told{Says: api.Taken, Gone: keysOf(a)}, keysOf(o), 8}, step{a, 0, Told{Says: api.Taken, Gone: keysOf(o)}, keysOf(a), 16})
	}
}

func TestHolesPoison(t *testing.T) {
	for _, most := range []int{1, 2, 3, 100} {
		x, m := made(t, api.Quota{Entries: 2, Bytes: 1 << 20, Holes: most, Timeout: 10})
		k := keyOf(packet(4, 7, 0, 8, true))
		for i := range most {
			told, _ := both(t, x, m, move{p: packet(4, 7, 16*i, 8, true)})
			if told.Says != api.Taken || x.Holes(k) != i+1 {
				t.Fatalf("P15.1: %d of %d holes: %+v, %d", i+1, most, told, x.Holes(k))
			}
		}
		if told, _ := both(t, x, m, move{p: packet(4, 7, 16*most, 8, true)}); told.Says != api.Poisoned || !x.Poisoned(k) || x.Holes(k) != 0 || x.Bytes() != 0 {
			t.Fatalf("P15.1: %d holes: %+v", most+1, told)
		}
		// It is told late no more, though its first fragment had come.
		if told, _ := both(t, x, m, move{wait: 10}); len(told.Late) > 0 || len(x.Keys()) > 0 {
			t.Fatalf("P15.6: a poisoned one: %+v", told)
		}
	}
}

func TestLate(t *testing.T) {
	for _, timeout := range []int64{1, 2, 10, 1 << 40} {
		a := packet(4, 1, 0, 8, true)
		b := packet(6, 2, 8, 8, true)
		c := packet(6, 1, 0, 16, true)
		d := packet(4, 4, 0, 8, true)
		q := api.Quota{Entries: 8, Bytes: 100, Holes: 8, Timeout: timeout}
		taken := Told{Says: api.Taken}
		start := []step{{a, 0, taken, keysOf(a), 8}, {b, 0, taken, keysOf(a, b), 16}, {c, 0, taken, keysOf(a, b, c), 32}, {d, 0, taken, keysOf(a, b, c, d), 40}, {spoilt(d), 0, Told{Says: api.Poisoned}, keysOf(a, b, c, d), 32}, {now: timeout - 1, keys: keysOf(a, b, c, d), bytes: 32}}
		then := func(s ...step) []step { return append(slices.Clone(start), s...) }
		play(t, "by a tick", q, then(step{now: timeout, told: Told{Late: list(a, c)}}, step{now: timeout})...)
		play(t, "by a fragment", q, then(step{a, timeout, Told{Says: api.Taken, Late: list(a, c)}, keysOf(a), 8})...)
		play(t, "by a whole packet", q, then(step{datagram(4, 1, 9), timeout, Told{Whole: list(datagram(4, 1, 9)), Late: list(a, c)}, nil, 0})...)
		if timeout < 1<<40 {
			play(t, "far behind", q, then(step{now: 1 << 40, told: Told{Late: list(a, c)}})...)
		}
	}
}

// A twin, and what is swallowed, make no entry younger.
func TestAgeIsOfTheBeginning(t *testing.T) {
	a, b, _, _ := pieces(4, 7)
	x, m := made(t, small)
	both(t, x, m, move{p: b, wait: 3})
	for range 9 {
		both(t, x, m, move{p: b, wait: 1})
	}
	both(t, x, m, move{p: a})
	if len(x.Keys()) != 1 {
		t.Fatal("P15.6: it went too early")
	}
	if told, _ := both(t, x, m, move{wait: 1}); len(told.Late) != 1 || !same(told.Late[0], a) || len(x.Keys()) != 0 {
		t.Errorf("P15.6: %+v", told)
	}
}

// First is told late as it came, though other fragments with the offset 0 came behind it.
func TestLateIsTheFirstOne(t *testing.T) {
	a := with(packet(4, 7, 0, 8, true), func(p *api.Packet) { p.TTL, p.TOS, p.DF, p.Opts = 3, 4, true, []byte{7, 4, 1, 2} })
	x, m := made(t, small)
	both(t, x, m, move{p: a})
	both(t, x, m, move{p: packet(4, 7, 0, 16, true)})
	both(t, x, m, move{p: packet(4, 7, 8, 16, true)})
	if told, _ := both(t, x, m, move{wait: 10}); len(told.Late) != 1 || !same(told.Late[0], a) {
		t.Errorf("P15.6: %+v", told)
	}
}

// What went late is not told by the pieces that come behind alone.
func TestLateIsNotDoneLater(t *testing.T) {
	for _, v := range []int{4, 6} {
		a, b, c, p := pieces(v, 7)
		taken := Told{Says: api.Taken}
		play(t, "late", small, step{a, 0, taken, keysOf(a), 16}, step{b, 9, taken, keysOf(a), 32}, step{c, 10, Told{Says: api.Taken, Late: list(a)}, keysOf(a), 8}, step{b, 11, taken, keysOf(a), 24}, step{now: 19, keys: keysOf(a), bytes: 24}, step{a, 19, Told{Says: api.Done, Whole: list(p)}, nil, 0})
	}
}
