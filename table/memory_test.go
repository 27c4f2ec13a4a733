package table

import (
	"bytes"
	"slices"
	"testing"

	"mosaic/api"
)

const mark = 0xa5

// roomy is a copy with marked room behind it.
func roomy(b []byte) []byte {
	room := bytes.Repeat([]byte{mark}, len(b)+64)
	copy(room, b)
	return room[:len(b)]
}

func spareIsMarked(b []byte) bool {
	for _, x := range b[len(b):cap(b)] {
		if x != mark {
			return false
		}
	}
	return true
}

// scribble turns every bit of a list and of the room behind it.
func scribble(b []byte) {
	b = b[:cap(b)]
	for i := range b {
		b[i] ^= 0xff
	}
}

// handed puts a packet that has room behind its lists, which are written over as soon as it is put.
func handed(t *testing.T, x *Table, p api.Packet, now int64) (Told, api.Errno) {
	t.Helper()
	q := p
	q.Opts, q.Data = roomy(p.Opts), roomy(p.Data)
	told, e := x.Put(q, now)
	if !same(p, q) || !spareIsMarked(q.Opts) || !spareIsMarked(q.Data) {
		t.Fatal("P15.7: Put changed what it was handed")
	}
	scribble(q.Opts)
	scribble(q.Data)
	return told, e
}

// overwrite changes all that an answer holds, list by list, and looks whether the lists that come behind have changed with it.
func overwrite(t *testing.T, told, want Told) {
	t.Helper()
	l, ll := slices.Concat(told.Whole, told.Late), slices.Concat(want.Whole, want.Late)
	for i := range l {
		if !bytes.Equal(l[i].Opts, ll[i].Opts) {
			t.Fatal("P15.7: two lists of an answer share memory")
		}
		scribble(l[i].Opts)
		if !bytes.Equal(l[i].Data, ll[i].Data) {
			t.Fatal("P15.7: two lists of an answer share memory")
		}
		scribble(l[i].Data)
	}
	for _, packets := range [][]api.Packet{told.Whole, told.Late} {
		packets = packets[:cap(packets)]
		for i := range packets {
			packets[i] = api.Packet{V: 9}
		}
	}
	blot(told.Gone)
}

// blot writes over keys, and over the room behind them.
func blot(l []api.Key) {
	l = l[:cap(l)]
	for i := range l {
		l[i] = api.Key{V: 9}
	}
}

func TestNothingIsShared(t *testing.T) {
	g := source(1570)
	var c count
	for range 2000 {
		x, m := made(t, g.quota())
		keys := 1 + g.below(8)
		for range 40 {
			mv := g.move(keys)
			now := m.last + mv.wait
			var got, want Told
			var e api.Errno
			if mv.p.V == 0 {
				got, e = x.Tick(now)
				want, _ = m.Tick(now)
			} else {
				got, e = handed(t, x, mv.p, now)
				want, _ = m.Put(mv.p, now)
			}
			if !alike(got, want) {
				t.Fatalf("P15.7: %v: %+v; want %+v", mv, got, want)
			}
			c.add(got, e)
			overwrite(t, got, want)
			blot(x.Keys())
			tells(t, x, m)
		}
	}
	c.least(t, 300)
}

// What was told stays as it is, whatever comes behind it.
func TestWhatIsToldStays(t *testing.T) {
	g := source(1571)
	for range 300 {
		x, m := made(t, g.quota())
		var told, want []Told
		var keys, wantKeys [][]api.Key
		for range 60 {
			mv := g.move(6)
			got, _ := both(t, x, m, mv)
			told = append(told, got)
			want = append(want, copied(got))
			k := x.Keys()
			keys, wantKeys = append(keys, k), append(wantKeys, slices.Clone(k))
		}
		for i := range told {
			if !alike(told[i], want[i]) || !slices.Equal(keys[i], wantKeys[i]) {
				t.Fatalf("P15.7: step %d: %+v, %v", i, told[i], keys[i])
			}
		}
	}
}

func copied(told Told) Told {
	out := Told{Says: told.Says, Gone: slices.Clone(told.Gone)}
	for _, p := range told.Whole {
		out.Whole = append(out.Whole, with(p, func(*api.Packet) {}))
	}
	for _, p := range told.Late {
		out.Late = append(out.Late, with(p, func(*api.Packet) {}))
	}
	return out
}

// Lists without elements are the same, nil or not.
func TestNilAndEmpty(t *testing.T) {
	for _, v := range []int{4, 6} {
		for _, p := range []api.Packet{packet(v, 7, 8, 8, true), packet(v, 7, 0, 0, false), packet(v, 7, 8, 0, true)} {
			empty := with(p, func(p *api.Packet) {
				p.Opts = []byte{}
				if len(p.Data) == 0 {
					p.Data = []byte{}
				}
			})
			x, m := made(t, small)
			y, n := made(t, small)
			got, e := both(t, x, m, move{p: p})
			other, ee := both(t, y, n, move{p: empty})
			if e != ee || !alike(got, other) {
				t.Errorf("nil and empty: %d, %+v; %d, %+v", e, got, ee, other)
			}
		}
	}
}

// Refused calls leave nothing behind: a table that got them answers as one that did not.
func TestRefusedChangesNothing(t *testing.T) {
	g := source(1572)
	no := 0
	for i := range 400 {
		q := g.quota()
		x, m := made(t, q)
		y, n := made(t, q)
		for range 50 {
			mv := g.move(5)
			for range g.below(3) {
				v := 4 + 2*(i%2)
				bad := wrong(v)
				if told, e := x.Put(bad[g.below(len(bad))], m.last+int64(g.below(50))); !isRefused(told, e) {
					t.Fatalf("P15.1: %d, %+v", e, told)
				}
				early := packet(v, 1, 0, 8, true)
				if told, e := x.Put(early, m.last-1); !isRefused(told, e) {
					t.Fatalf("P15.1: %d, %+v", e, told)
				}
				if told, e := x.Tick(m.last - 1); !isRefused(told, e) {
					t.Fatalf("P15.1: %d, %+v", e, told)
				}
				no++
				tells(t, x, m)
			}
			both(t, x, m, mv)
			both(t, y, n, mv)
		}
	}
	if no < 5000 {
		t.Errorf("only %d were refused", no)
	}
}

// Tables that take turns answer as their models do, each for itself.
func TestTablesAreApart(t *testing.T) {
	g := source(1573)
	for range 200 {
		var tables [4]*Table
		var models [4]*model
		for i := range tables {
			tables[i], models[i] = made(t, g.quota())
		}
		for range 120 {
			i := g.below(4)
			both(t, tables[i], models[i], g.move(6))
		}
		for i := range tables {
			tells(t, tables[i], models[i])
		}
	}
}

// The same calls on new tables tell the same: nothing hangs on a map's order.
func TestOneOutcome(t *testing.T) {
	run := func() []Told {
		g := source(1574)
		var out []Told
		for range 100 {
			x, m := made(t, g.quota())
			for range 50 {
				got, _ := both(t, x, m, g.move(8))
				out = append(out, got)
			}
		}
		return out
	}
	a, b := run(), run()
	if !slices.EqualFunc(a, b, alike) {
		t.Error("two runs differ")
	}
}
