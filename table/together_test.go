package table

import (
	"bytes"
	"slices"
	"testing"

	"mosaic/api"
	"mosaic/cut"
	"mosaic/opts"
)

// uncut is a packet that its source has not cut yet.
func uncut(v, n int, options ...byte) api.Packet {
	p := datagram(v, 7, n)
	p.TOS, p.TTL, p.Opts = 33, 44, options
	if v == 6 {
		p.Flow = 55
	}
	return p
}

// parted is p cut where at says, in bytes; with the ID id in version 6.
func parted(p api.Packet, id uint32, at ...int) []api.Packet {
	var l []api.Packet
	from := 0
	for _, to := range append(slices.Clone(at), len(p.Data)) {
		q := p
		q.Off, q.More, q.Data = from, to < len(p.Data), p.Data[from:to]
		if p.V == 6 {
			q.Frag, q.ID = true, id
		} else if from > 0 {
			q.Opts = opts.Carry(p.Opts)
		}
		l = append(l, q)
		from = to
	}
	return l
}

// places are some of the multiples of 8 inside, in order.
func (s *source) places(n, most int) []int {
	var l []int
	for at := 8 * (1 + s.below(most)); at < n; at += 8 * (1 + s.below(most)) {
		l = append(l, at)
	}
	return l
}

// again are the pieces in any order, some of them oftener than once.
func (s *source) again(l []api.Packet) []api.Packet {
	out := slices.Clone(l)
	for range s.below(2*len(l) + 1) {
		out = append(out, l[s.below(len(l))])
	}
	shuffle(s, out)
	return out
}

// together puts pieces into a new table of just the quota that they need, and holds against P15.3 which Put tells the datagram. It tells how many Puts that took.
func together(t *testing.T, p api.Packet, l []api.Packet, came []api.Packet, g *source) int {
	t.Helper()
	if len(l) < 2 || !cut.Is(p, 65535, l) {
		t.Fatalf("%d pieces are no fragmentation", len(l))
	}
	timeout := int64(1 + g.below(20))
	x, e := New(api.Quota{Entries: 1, Bytes: len(p.Data), Holes: api.MaxHoles, Timeout: timeout})
	if e != api.OK {
		t.Fatal(e)
	}
	start := int64(g.below(100))
	missing := map[int]bool{}
	for _, q := range l {
		missing[q.Off] = true
	}
	for i, q := range came {
		delete(missing, q.Off)
		told, e := x.Put(q, start+timeout*int64(i)/int64(len(came)))
		if e != api.OK || len(told.Gone) > 0 || len(told.Late) > 0 {
			t.Fatalf("P15.3: piece %d of %d: %d, %+v", i, len(came), e, told)
		}
		if len(missing) == 0 {
			if told.Says != api.Done || len(told.Whole) != 1 || !same(told.Whole[0], p) || len(x.Keys()) > 0 || x.Bytes() > 0 {
				t.Fatalf("P15.3: all %d are there: %d, %d told", len(l), told.Says, len(told.Whole))
			}
			return i + 1
		}
		if told.Says != api.Taken && told.Says != api.Twin || len(told.Whole) > 0 {
			t.Fatalf("P15.3: piece %d of %d: %+v", i, len(came), told)
		}
	}
	t.Fatal("P15.3: some are missing")
	return 0
}

func TestEveryPartingOfAShortPacket(t *testing.T) {
	g := source(153)
	for _, v := range []int{4, 6} {
		for n := 9; n <= 40; n++ {
			p := uncut(v, n)
			inside := (n - 1) / 8
			for mask := 1; mask < 1<<inside; mask++ {
				var at []int
				for i := range inside {
					if mask>>i&1 == 1 {
						at = append(at, 8*(i+1))
					}
				}
				l := parted(p, 9, at...)
				for range 6 {
					together(t, p, l, g.again(l), &g)
				}
			}
		}
	}
}

func TestRandomPartings(t *testing.T) {
	g := source(154)
	lists := [][]byte{nil, {130, 4, 1, 2}, {7, 4, 1, 2}, {7, 3, 1, 130, 3, 2, 1, 0}, bytes.Repeat([]byte{1}, 40)}
	doubled := 0
	for i := range 3000 {
		v := 4 + 2*(i%2)
		var options []byte
		if v == 4 {
			options = lists[g.below(len(lists))]
		}
		p := uncut(v, 9+g.below(600), options...)
		l := parted(p, uint32(g.next()), g.places(len(p.Data), 1+g.below(12))...)
		if len(l) < 2 {
			continue
		}
		if together(t, p, l, g.again(l), &g) > len(l) {
			doubled++
		}
	}
	if doubled < 300 {
		t.Errorf("only %d had pieces that came again", doubled)
	}
}

// What a source makes for a link is put together too.
func TestCutByTheSource(t *testing.T) {
	g := source(155)
	for _, v := range []int{4, 6} {
		for _, n := range []int{1300, 4000, 65507, 65515} {
			for _, mtu := range []int{1280, 1500, 9000} {
				p := uncut(v, n)
				l, e := cut.Cut(p, mtu, 0xabcdef)
				if e != api.OK {
					t.Fatal(e)
				}
				if len(l) > 1 {
					together(t, p, l, g.again(l), &g)
				}
			}
		}
	}
}

// The longest datagrams in the shortest pieces: in each order that makes few holes or many.
func TestLongestInEights(t *testing.T) {
	g := source(156)
	for v, n := range map[int]int{4: 65515, 6: 65527} {
		p := uncut(v, n)
		var at []int
		for off := 8; off < n; off += 8 {
			at = append(at, off)
		}
		l := parted(p, 9, at...)
		back := slices.Clone(l)
		slices.Reverse(back)
		var odd, even []api.Packet
		for i, q := range l {
			if i%2 == 1 {
				odd = append(odd, q)
			} else {
				even = append(even, q)
			}
		}
		mixed := slices.Clone(l)
		shuffle(&g, mixed)
		for _, came := range [][]api.Packet{l, back, slices.Concat(odd, even), slices.Concat(even, odd), mixed} {
			if together(t, p, l, came, &g) != len(l) {
				t.Error("P15.3: told too early")
			}
		}
	}
}

// share is what of a script is of one key: what was put and when, and what was told.
type share struct {
	put  []api.Packet
	at   []int64
	told []Told
	late []api.Packet
}

// alone is what a table tells of a share when it gets nothing else. An entry may go at a later call there, but goes all the same.
func (s *share) alone(t *testing.T, q api.Quota) {
	t.Helper()
	x, _ := New(q)
	var late []api.Packet
	for i, p := range s.put {
		got, e := x.Put(p, s.at[i])
		late = append(late, got.Late...)
		got.Late = nil
		if e != api.OK || !alike(got, s.told[i]) {
			t.Fatalf("P15.4: alone %+v, among others %+v", got, s.told[i])
		}
	}
	got, _ := x.Tick(api.MaxTick)
	if late = append(late, got.Late...); !slices.EqualFunc(late, s.late, same) {
		t.Fatalf("P15.4: late alone %v, among others %v", late, s.late)
	}
}

// shares runs a script that nothing is pushed out of, and parts what it told by keys.
func shares(t *testing.T, g *source, q api.Quota, c *count) map[api.Key]*share {
	t.Helper()
	x, m := made(t, q)
	all := map[api.Key]*share{}
	keys := 2 + g.below(6)
	for range 60 {
		mv := g.move(keys)
		mv.wait = max(mv.wait, 0)
		if !right(mv.p) {
			continue
		}
		got, e := both(t, x, m, mv)
		if e != api.OK || len(got.Gone) > 0 {
			t.Fatalf("%v: %d, %+v", mv, e, got)
		}
		c.add(got, e)
		k := keyOf(mv.p)
		if all[k] == nil {
			all[k] = &share{}
		}
		for _, p := range got.Late {
			all[keyOf(p)].late = append(all[keyOf(p)].late, p)
		}
		got.Late = nil
		s := all[k]
		s.put, s.at, s.told = append(s.put, mv.p), append(s.at, m.last), append(s.told, got)
	}
	got, _ := x.Tick(api.MaxTick)
	for _, p := range got.Late {
		all[keyOf(p)].late = append(all[keyOf(p)].late, p)
	}
	return all
}

// Each for itself: packets of several keys, and beside them those of each key alone.
func TestEachForItself(t *testing.T) {
	g := source(157)
	var c count
	for range 1500 {
		q := api.Quota{Entries: api.MaxEntries, Bytes: api.MaxHeld, Holes: 1 + g.below(4), Timeout: int64(1 + g.below(40))}
		for _, s := range shares(t, &g, q, &c) {
			s.alone(t, q)
		}
	}
	if c.says[api.Done] < 500 || c.says[api.Poisoned] < 500 || c.late < 500 {
		t.Errorf("too few of a kind: %+v", c)
	}
}
