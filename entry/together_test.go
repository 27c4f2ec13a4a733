package entry

import (
	"bytes"
	"slices"
	"testing"

	"mosaic/api"
	"mosaic/cut"
	"mosaic/recut"
)

// whole is a packet that no one has cut yet.
func whole(v, n int, opts ...byte) api.Packet {
	p := packet(v, 0, n, false)
	p.Opts, p.TOS, p.TTL = opts, 33, 44
	if v == 6 {
		p.Frag, p.ID, p.Flow = false, 0, 55
	}
	return p
}

// optionLists are options of which later fragments carry all, some or none.
func optionLists() [][]byte {
	return [][]byte{nil, {130, 4, 1, 2}, {7, 4, 1, 2}, {7, 3, 1, 130, 3, 2, 1, 0}, bytes.Repeat([]byte{1}, 40)}
}

// cutFor is what a source makes of a whole packet that has to be cut; none, if it fits.
func cutFor(t *testing.T, p api.Packet, mtu int) []api.Packet {
	t.Helper()
	l, e := cut.Cut(p, mtu, 0xabcdef)
	if e != api.OK {
		t.Fatalf("%d bytes for %d: %d", len(p.Data), mtu, e)
	}
	if len(l) == 1 {
		return nil
	}
	return l
}

// wandered are fragments as they may come: each as often as you like, uncut or cut again and again, in any order, all at least once.
func (s *source) wandered(t *testing.T, l []api.Packet) []api.Packet {
	t.Helper()
	pool := slices.Clone(l)
	for range s.below(8) {
		pool = append(pool, s.cutAgain(t, pool[s.below(len(pool))])...)
	}
	out := slices.Clone(l)
	for i := range out {
		// Some come in pieces alone.
		if s.below(3) == 0 {
			k := s.cutAgain(t, out[i])
			out[i] = k[0]
			out = append(out, k[1:]...)
		}
	}
	for range s.below(2*len(l) + 1) {
		out = append(out, pool[s.below(len(pool))])
	}
	shuffle(s, out)
	return out
}

func (s *source) cutAgain(t *testing.T, p api.Packet) []api.Packet {
	t.Helper()
	if p.V == 6 {
		return []api.Packet{p}
	}
	l, e := recut.Recut(p, 68+s.below(20+len(p.Opts)+len(p.Data)))
	if e != api.OK {
		t.Fatalf("%d bytes at %d: %d", len(p.Data), p.Off, e)
	}
	return l
}

// cover is which offsets of a datagram have come.
type cover struct {
	there []bool
	count int
	last  bool // the last offset, and with it the end
}

func (c *cover) add(p api.Packet) (fresh int) {
	for off := p.Off; off < p.Off+len(p.Data); off++ {
		if !c.there[off] {
			c.there[off] = true
			fresh++
		}
	}
	c.count += fresh
	c.last = c.last || !p.More
	return fresh
}

// gaps counts the runs that have not come; while the end has not, what is behind all is one.
func (c *cover) gaps() int {
	n, open := 0, false
	for _, is := range c.there {
		if !is && !open {
			n++
		}
		open = !is
	}
	return n
}

// comesTogether puts fragments of one datagram.
func comesTogether(t *testing.T, p api.Packet, l []api.Packet) {
	t.Helper()
	e, c := New(keyOf(l[0]), 0), cover{there: make([]bool, len(p.Data))}
	for i, q := range l {
		want := api.Twin
		if c.add(q) > 0 {
			want = api.Taken
			if c.count == len(p.Data) {
				want = api.Done
			}
		}
		if says := e.Put(q); says != want {
			t.Fatalf("P14.2: of %d bytes, behind %s: Put(%s) = %d, want %d", len(p.Data), brief(l[:i]...), brief(q), says, want)
		}
		if e.Bytes() != c.count || e.Holes() != c.gaps() {
			t.Fatalf("P14.3: of %d bytes, behind %s: %d bytes, %d holes; want %d, %d", len(p.Data), brief(l[:i+1]...), e.Bytes(), e.Holes(), c.count, c.gaps())
		}
		if got, is := e.Whole(); is != (c.count == len(p.Data)) || is && !same(got, p) {
			t.Fatalf("P14.2: of %d bytes, behind %s: Whole %v, %d bytes", len(p.Data), brief(l[:i+1]...), is, len(got.Data))
		}
	}
	if c.count != len(p.Data) || !c.last {
		t.Fatalf("of %d bytes %d have come", len(p.Data), c.count)
	}
}

func TestCutAndPutTogether(t *testing.T) {
	g := source(142)
	told := 0
	for i := range 1500 {
		v, n := 4+2*(i%2), 1+g.below(600)
		var opts []byte
		mtu := 68 + g.below(300)
		if v == 4 {
			opts = optionLists()[g.below(len(optionLists()))]
		} else {
			n += 1200 + g.below(5000)
			mtu = 1280 + g.below(1000)
		}
		p := whole(v, n, opts...)
		l := cutFor(t, p, mtu)
		if l == nil {
			continue
		}
		told++
		comesTogether(t, p, l)
		comesTogether(t, p, g.wandered(t, l))
	}
	if told < 1000 {
		t.Errorf("P14.2: only %d were cut", told)
	}
}

// TestLongestDatagrams has those of which one byte more would be too long.
func TestLongestDatagrams(t *testing.T) {
	g := source(143)
	for _, opts := range optionLists() {
		p := whole(4, 65535-20-len(opts), opts...)
		for _, mtu := range []int{1500, 9000, 65534} {
			comesTogether(t, p, g.wandered(t, cutFor(t, p, mtu)))
		}
	}
	for _, n := range []int{65534, 65535} {
		p := whole(6, n)
		for _, mtu := range []int{1280, 9000, 65535} {
			comesTogether(t, p, g.wandered(t, cutFor(t, p, mtu)))
		}
	}
}

// TestEveryOrder puts few fragments, uncut and cut again, in every order.
func TestEveryOrder(t *testing.T) {
	p := whole(4, 100, 7, 4, 1, 2)
	l := cutFor(t, p, 88) // 64 bytes, and 36
	again, e := recut.Recut(l[0], 68)
	if len(l) != 2 || len(again) != 2 || e != api.OK {
		t.Fatalf("%d, %d pieces", len(l), len(again))
	}
	for _, k := range orders(slices.Concat(l, again)) {
		comesTogether(t, p, k)
		comesTogether(t, p, slices.Concat(k, k))
	}
	p = whole(6, 3000)
	for _, k := range orders(cutFor(t, p, 1280)) {
		comesTogether(t, p, k)
		comesTogether(t, p, slices.Concat(k[:1], k[:2], k[:1], k, k))
	}
}

func orders(l []api.Packet) [][]api.Packet {
	if len(l) == 0 {
		return [][]api.Packet{nil}
	}
	var out [][]api.Packet
	for i := range l {
		for _, k := range orders(slices.Concat(l[:i], l[i+1:])) {
			out = append(out, append([]api.Packet{l[i]}, k...))
		}
	}
	return out
}

// A packet that fits stays whole, and is none of an entry's.
func TestWhatIsNotCut(t *testing.T) {
	for _, v := range []int{4, 6} {
		p := whole(v, 40)
		l, _ := cut.Cut(p, 1500, 9)
		e := New(keyOf(p), 0)
		if says := e.Put(l[0]); len(l) != 1 || says != api.Ignored || e.Holes() != 1 {
			t.Errorf("P14.1: a whole packet: %d", says)
		}
	}
}

// TestSmallestPieces has as many fragments as there may be, and as many holes.
func TestSmallestPieces(t *testing.T) {
	for _, v := range []int{4, 6} {
		long := 65515
		if v == 6 {
			long = 65535
		}
		var l []api.Packet
		for off := 0; off < long; off += 8 {
			n := min(8, long-off)
			l = append(l, packet(v, off, n, off+n < long))
		}
		e := New(keyOf(l[0]), 0)
		for i := 1; i < len(l)-1; i += 2 {
			if says := e.Put(l[i]); says != api.Taken || e.Holes() != i/2+2 {
				t.Fatalf("P14.3: Put(%s) = %d, %d holes", brief(l[i]), says, e.Holes())
			}
		}
		g := source(144)
		shuffle(&g, l)
		done := 0
		for range 2 {
			for _, p := range l {
				switch says := e.Put(p); says {
				case api.Done:
					done++
				case api.Taken, api.Twin:
				default:
					t.Fatalf("P14.2: Put(%s) = %d", brief(p), says)
				}
			}
		}
		if w, is := e.Whole(); done != 1 || !is || !bytes.Equal(w.Data, said(0, long)) || e.Holes() != 0 || e.Bytes() != long {
			t.Errorf("P14.2: version %d: %d times done, %v, %d bytes", v, done, is, len(w.Data))
		}
	}
}
