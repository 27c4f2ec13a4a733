package host

import (
	"bytes"
	"slices"
	"testing"

	"mosaic/api"
	"mosaic/icmp"
)

// order is the numbers below n, each at least once and in any order, but one of them, if there are more, just once: so not all come twice over.
func (s *source) order(n int) []int {
	var l []int
	for i := range n {
		l = append(l, i)
	}
	if n > 1 {
		alone := s.below(n)
		for range s.below(2 * n) {
			if i := s.below(n); i != alone {
				l = append(l, i)
			}
		}
	}
	for i := range l {
		j := i + s.below(len(l)-i)
		l[i], l[j] = l[j], l[i]
	}
	return l
}

// P22.3: what Send answers comes, in any order, with a quota that is just enough.
func TestItComes(t *testing.T) {
	g := source(223)
	many, options := 0, 0
	for range 3000 {
		v := pick(&g, 4, 6)
		from, to := dualConfig(1), dualConfig(2)
		from.Links = []int{pick(&g, 1280, 1281, 1500, 9000, 65535)}
		src, dst, any := four(1), four(2), any4
		if v == 6 {
			src, dst, any = six(1), six(2), any6
		} else if g.once(2) {
			from.Links = []int{pick(&g, 68, 69, 75, 76, 296, 576)}
		}
		f := api.Flags{}
		if v == 4 {
			f.NoSum = g.once(3)
			f.Opts = pick(&g, nil, nil, alert, pad, slices.Concat(alert, pad), bytes.Repeat(alert, 10))
		}
		data := g.bytes(g.size())
		data = data[:min(len(data), room(v, f))]
		to.Quota = api.Quota{Entries: 1, Bytes: 8 + len(data), Holes: 8192, Timeout: 1}
		to.Queue, to.Bytes = 1, len(data)
		a, b := made(t, from), made(t, to)
		binds(t, a, pick(&g, src, any), 1000, 1, 1000)
		binds(t, b, pick(&g, dst, any), 7, 1, 7)
		l := sends(t, a, 1, dst, 7, data, f)
		if len(l) > 1 {
			many++
			options += len(f.Opts)
		}
		come := map[int]int{}
		for _, k := range g.order(len(l)) {
			full := len(come) == len(l)
			come[k]++
			quiet(t, b, l[k])
			if !full && len(come) == len(l) {
				receives(t, b, 1, api.Got{Src: src, SPort: 1000, Dst: dst, DPort: 7, Data: data})
			}
			recvFails(t, b, 1, api.ErrEmpty)
		}
		counts(t, b, [8]int{})
		if t.Failed() {
			t.Fatalf("P22.3: %d bytes over %v with %+v", len(data), from.Links, f)
		}
	}
	if many < 700 || options < 1000 {
		t.Errorf("only %d were cut, with %d bytes of options", many, options)
	}
}

// refusedMove asks what the host refuses, and what may be asked at any time.
func (s *source) refusedMove(h *Host, m *model) {
	n := s.socket(m)
	switch s.below(6) {
	case 0:
		a, port := s.address(), s.port()
		if _, _, e := copied(m).bind(a, port); e != api.OK {
			h.Bind(a, port)
		}
	case 1:
		if !m.open(n) {
			h.Close(n)
		}
	case 2:
		if _, e := copied(m).recv(n); e != api.OK {
			h.Recv(n)
		}
	case 3:
		h.Tick(pick(s, m.now-1, -1, 1<<40+1))
		h.Estimate(s.address())
		h.State()
	default:
		dst, port, data, f := s.address(), s.port(), make([]byte, s.size()), s.flags()
		if _, e := copied(m).send(n, dst, port, data, f); e != api.OK {
			h.Send(n, dst, port, data, f)
		}
	}
}

// copied is a model whose sockets and identifications may be used up without harm.
func copied(m *model) *model {
	c := *m
	c.socks = slices.Clone(m.socks)
	c.given = map[int][]int64{4: slices.Clip(m.given[4]), 6: slices.Clip(m.given[6])}
	c.sends = slices.Clip(m.sends)
	return &c
}

// P22.4: a host to which refused calls came answers as its model, to which none came.
func TestRefusedChangesNothing(t *testing.T) {
	g := source(224)
	c := newTally()
	for range 400 {
		w := newWorld(t, &g, c)
		for range 200 {
			for range g.below(4) {
				x := w.hosts[g.below(2)]
				g.refusedMove(x.h, x.m)
			}
			w.move(&g)
			w.hosts[g.below(2)].tells()
		}
	}
	if c.errors[api.OK] < 10000 || c.moves["cut"] < 100 || c.moves["joined"] < 50 {
		t.Errorf("too few of a kind: %v, %v", c.errors, c.moves)
	}
}

// P22.5: behind a TooBig about a send of the last Window ones the estimate is that MTU; about an older one nothing changes.
func TestLearnt(t *testing.T) {
	g := source(225)
	learnt, older := 0, 0
	for range 3000 {
		v := pick(&g, 4, 6)
		c := dualConfig(1)
		c.Window = pick(&g, 0, 1, 2, 16, 64)
		first := pick(&g, 1281, 1500, 9000, 65535)
		c.Links = []int{first}
		h := made(t, c)
		src, dst, other, from, head := four(1), four(2), four(3), four(9), 28
		if v == 6 {
			src, dst, other, from, head = six(1), six(2), six(3), six(9), 48
		}
		binds(t, h, src, 1000, 1, 1000)
		l := sends(t, h, 1, dst, 7, g.bytes(pick(&g, 0, 8, 500, 1233, 3000, 20000)), api.Flags{})
		behind := g.below(c.Window + 3)
		for range behind {
			sends(t, h, 1, pick(&g, dst, other), pick(&g, 7, 8), g.bytes(g.below(20)), api.Flags{})
		}
		mtu := pick(&g, 1280, first-1, 1280+g.below(first-1280))
		want := mtu
		if v == 4 && g.once(2) {
			mtu = pick(&g, 1, 67, 68, 69, 576)
			want = max(mtu, 68)
		}
		m, e := icmp.TooBig(l[0], mtu)
		if e != api.OK {
			t.Fatal(e)
		}
		quiet(t, h, about(t, from, src, m))
		estimates(t, h, other, first)
		if behind >= c.Window {
			older++
			estimates(t, h, dst, first)
			counts(t, h, [8]int{5: 1})
			continue
		}
		learnt++
		estimates(t, h, dst, want)
		counts(t, h, [8]int{5: 1, 6: 1, 7: 1})
		sendFails(t, h, 1, dst, 7, make([]byte, want-head+1), api.Flags{DF: true}, api.ErrBig)
		if k := lengths(sends(t, h, 1, dst, 7, make([]byte, want-head), api.Flags{DF: true})); !slices.Equal(k, []int{want}) {
			t.Errorf("P22.5: with DF %v; want %d", k, want)
		}
		if k := slices.Max(lengths(sends(t, h, 1, dst, 7, make([]byte, 30000), api.Flags{}))); k > want {
			t.Errorf("P22.2: a packet of %d bytes; the estimate is %d", k, want)
		}
		if t.Failed() {
			t.Fatalf("P22.5: version %d, first %d, mtu %d, window %d, behind %d", v, first, mtu, c.Window, behind)
		}
	}
	if learnt < 1000 || older < 200 {
		t.Errorf("%d were learnt, %d older", learnt, older)
	}
}

// What is pushed out of the path cache is the first hop's MTU again; ticks let the others rise.
func TestEstimatesRise(t *testing.T) {
	c := dualConfig(1)
	c.Paths = api.Paths{Entries: 2, Age: 10}
	h := made(t, c)
	binds(t, h, four(1), 1000, 1, 1000)
	for d := byte(2); d <= 4; d++ {
		m, _ := icmp.TooBig(sends(t, h, 1, four(d), 7, make([]byte, 1000), api.Flags{})[0], 576)
		quiet(t, h, about(t, four(9), four(1), m))
		estimates(t, h, four(d), 576)
		ticks(t, h, int64(d))
	}
	estimates(t, h, four(2), 1500)
	if p := h.State().Paths; !slices.Equal(p, []api.Addr{four(3), four(4)}) {
		t.Errorf("P22.1: Paths = %v", p)
	}
	ticks(t, h, 11)
	estimates(t, h, four(3), 576)
	ticks(t, h, 12) // heard at 2 and 3
	estimates(t, h, four(3), 1006)
	estimates(t, h, four(4), 576)
	for now := int64(22); now <= 62; now += 10 {
		ticks(t, h, now)
	}
	estimates(t, h, four(3), 1500)
	estimates(t, h, four(4), 1500)
	if p := h.State().Paths; len(p) != 0 {
		t.Errorf("P22.1: Paths = %v", p)
	}
}
