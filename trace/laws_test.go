package trace

import (
	"bytes"
	"fmt"
	"math"
	"runtime"
	"slices"
	"sync"
	"testing"

	"mosaic/api"
	"mosaic/net"
	"mosaic/udp"
)

// watch is a world whose ghost is looked at behind each move.
type watch struct {
	t     *testing.T
	w     *World
	m     *model          // it says which moves are worth making
	keys  map[int]api.Key // by number
	sent  map[int]Sent    // by number, as they were told first
	bytes map[int][]byte  // by number: the send's datagram
	sends int             // packets of sends that were looked at
	parts int             // fragments among them
	came  int             // datagrams that were received while it was clear
	left  int             // as many behind that
}

func newWatch(t *testing.T, c net.Config) *watch {
	t.Helper()
	x := &watch{t: t, w: made(t, c), m: newModel(t, c), keys: map[int]api.Key{}, sent: map[int]Sent{}, bytes: map[int][]byte{}}
	for _, v := range x.m.begin() {
		x.move(v)
	}
	return x
}

func (x *watch) move(v api.Move) {
	x.t.Helper()
	x.m.do(v)
	a := x.w.Do(v)
	switch {
	case a.Code != api.OK:
	case v.Kind == api.MvSend:
		x.note(v.Flags)
	case v.Kind == api.MvRecv:
		x.received(a.Got)
	}
}

// note is P25.3 of the send that was accepted last.
func (x *watch) note(f api.Flags) {
	x.t.Helper()
	l := x.w.Sends()
	s := l[len(l)-1]
	for n := range x.sent {
		if n >= s.Number {
			x.t.Fatalf("P25.3: a send of the number %d behind one of %d", s.Number, n)
		}
	}
	b, e := udp.Build(s.Src, s.Dst, api.Dgram{SPort: s.SPort, DPort: s.DPort, NoSum: f.NoSum, Data: s.Data})
	if e != api.OK || len(l) != len(x.sent)+1 {
		x.t.Fatalf("P25.1: %d sends, the last one %+v", len(l), s)
	}
	x.sent[s.Number], x.bytes[s.Number] = s, b
}

// looks is P25.3 and P25.4 of all that is under way.
func (x *watch) looks() {
	x.t.Helper()
	for k, y := range x.w.Flight() {
		n, p := x.w.Of(k), taken(y.Bytes)
		if n < 1 {
			x.t.Fatalf("P25.3: Of(%d) = %d", k, n)
		}
		if is, was := x.keys[n]; p.V != 0 && was && is != keyOf(p) {
			x.t.Fatalf("P25.3: of the number %d are %+v and %+v", n, is, keyOf(p))
		}
		if p.V != 0 {
			x.keys[n] = keyOf(p)
		}
		if s, is := x.sent[n]; is {
			x.true(s, p)
		}
	}
}

// true is P25.4 of a packet with the number of a send.
func (x *watch) true(s Sent, p api.Packet) {
	x.t.Helper()
	if p.V != s.Src.V || p.Src != s.Src || p.Dst != s.Dst || p.Proto != 17 {
		x.t.Fatalf("P25.4: %+v is of the send %+v", p, s)
	}
	all, to := x.bytes[s.Number], p.Off+len(p.Data)
	if to > len(all) || !bytes.Equal(p.Data, all[p.Off:to]) || !p.More && to != len(all) {
		x.t.Fatalf("P25.4: %+v is of the send %+v", p, s)
	}
	if x.sends++; isFragment(p) {
		x.parts++
	}
}

// received is P25.5 of a datagram, as long as it is clear.
func (x *watch) received(g api.Got) {
	x.t.Helper()
	if !x.w.Clear() {
		x.left++
		return
	}
	x.came++
	for _, s := range x.sent {
		if s.Src == g.Src && s.SPort == g.SPort && s.Dst == g.Dst && s.DPort == g.DPort && bytes.Equal(s.Data, g.Data) {
			return
		}
	}
	x.t.Fatalf("P25.5: nobody sent %+v", g)
}

// ends injects a packet: its number is the greatest, and behind all others that were given.
func (x *watch) ends() {
	x.t.Helper()
	if x.w.Do(api.Move{Kind: api.MvInject}).Code != api.OK {
		return
	}
	last := x.w.Of(len(x.w.Flight()) - 1)
	for n := range x.keys {
		if n >= last {
			x.t.Fatalf("P25.3: Of told %d; the next one is %d", n, last)
		}
	}
	for n := range x.sent {
		if n >= last {
			x.t.Fatalf("P25.3: a send has the number %d; the next one is %d", n, last)
		}
	}
}

// P25.3, P25.4: whose packets the numbers of all scripts are.
func TestTrue(t *testing.T) {
	t.Parallel()
	g := source(2506)
	sends, parts := 0, 0
	for range 300 {
		y := g.manner()
		x := newWatch(t, g.config(y))
		for range 120 {
			x.move(g.move(x.m, y))
			x.looks()
		}
		x.ends()
		x.w.Close()
		x.m.w.Close()
		sends, parts = sends+x.sends, parts+x.parts
	}
	if sends < 20000 || parts < 10000 {
		t.Errorf("only %d packets of sends, %d fragments", sends, parts)
	}
}

// P25.5: what comes was sent, in worlds whose nodes have addresses in common too.
func TestWhatComesWasSent(t *testing.T) {
	t.Parallel()
	g := source(2507)
	came, left := 0, 0
	for i := range 500 {
		y := g.manner()
		y.honest, y.rivals = true, i%2 == 0 && y.hosts == 3
		x := newWatch(t, g.config(y))
		for range 200 {
			v := g.move(x.m, y)
			if n := len(x.m.numbers); n > 0 && g.once(2) {
				v = api.Move{Kind: api.MvForward, K: g.below(n)}
			}
			at := -1
			if v.Kind == api.MvForward && v.K >= 0 && v.K < len(x.m.numbers) {
				at = x.m.w.Flight()[v.K].Node
			}
			x.move(v)
			for socket := 1; socket <= 3 && at >= 0 && at < y.hosts; socket++ {
				x.move(api.Move{Kind: api.MvRecv, Node: at, Socket: socket})
			}
		}
		x.w.Close()
		x.m.w.Close()
		came, left = came+x.came, left+x.left
	}
	if came < 2000 || left < 20 {
		t.Errorf("only %d were received while it was clear, %d behind that", came, left)
	}
}

// Why P25.5 asks for Clear: of two sends of one identification a datagram comes that nobody sent, and Clear says so.
func TestMixed(t *testing.T) {
	w := begun(t, config())
	a, b := bytes.Repeat([]byte{1}, 1000), bytes.Repeat([]byte{2}, 1000)
	send := func(data []byte) {
		does(t, w, api.Move{Kind: api.MvSend, Socket: 1, Addr: four(1, 1), Port: 7, Data: data, Flags: api.Flags{NoSum: true}})
	}
	send(a)
	for range 65535 {
		send(nil)
		does(t, w, api.Move{Kind: api.MvDrop, K: 1})
	}
	send(b)
	forwards(t, w, 0, 0)
	isClear(t, w, false)
	forwards(t, w, 0, 2) // the first piece of one, the second of the other
	got := does(t, w, api.Move{Kind: api.MvRecv, Node: 1, Socket: 2}).Got
	if len(got.Data) != 1000 || bytes.Equal(got.Data, a) || bytes.Equal(got.Data, b) {
		t.Errorf("%x came", got.Data)
	}
}

// outcome is all that a world tells in a script.
func (x script) outcome(t *testing.T) []string {
	w, e := New(x.c)
	if e != api.OK {
		t.Errorf("New = %d", e)
		return nil
	}
	defer w.Close()
	var l []string
	for _, v := range x.moves {
		l = append(l, fmt.Sprint(w.Do(v), w.Clear(), numbers(w), len(w.Sends())))
	}
	return append(l, fmt.Sprint(w.Sends(), w.Flight()))
}

// script is a world's moves, made ahead of it.
type script struct {
	c     net.Config
	moves []api.Move
}

func (s *source) script(t *testing.T, moves int) script {
	t.Helper()
	y := s.manner()
	c := s.config(y)
	m := newModel(t, c)
	x := script{c: c, moves: m.begin()}
	for _, v := range x.moves {
		m.do(v)
	}
	for range moves {
		v := s.move(m, y)
		m.do(v)
		x.moves = append(x.moves, v)
	}
	return x
}

// One outcome, on one processor or many, alone or beside many other worlds.
func TestOneOutcome(t *testing.T) {
	g := source(2508)
	var scripts []script
	var want [][]string
	for range 16 {
		x := g.script(t, 150)
		scripts, want = append(scripts, x), append(want, x.outcome(t))
	}
	defer runtime.GOMAXPROCS(runtime.GOMAXPROCS(0))
	for _, n := range []int{1, 8} {
		runtime.GOMAXPROCS(n)
		var all sync.WaitGroup
		for range 3 {
			for i, x := range scripts {
				all.Go(func() {
					if !slices.Equal(x.outcome(t), want[i]) {
						t.Errorf("script %d: another outcome on %d processors", i, n)
					}
				})
			}
		}
		all.Wait()
	}
}

// What is refused changes nothing of the ghost: with many refused moves between a script's own, all is told as without them.
func TestRefusedChangesNothing(t *testing.T) {
	g := source(2509)
	for range 100 {
		x := g.script(t, 120)
		s := newSubject(t, x.c, map[string]int{})
		for _, v := range x.moves {
			for range g.below(4) {
				r := g.refused(s.m)
				if a := s.w.Do(r); a.Code == api.OK {
					t.Fatalf("%+v is accepted", brief(r))
				}
				s.tells()
			}
			s.do(v)
			s.tells()
		}
	}
}

// refused is a move that is refused in any case.
func (s *source) refused(m *model) api.Move {
	none := len(m.numbers) + s.below(3)
	no := pick(s, math.MinInt, -1, len(m.c.Hosts), m.nodes()+5, math.MaxInt)
	calls := []int{api.MvBind, api.MvShut, api.MvSend, api.MvRecv, api.MvEstimate}
	switch s.below(7) {
	case 0:
		return api.Move{Kind: pick(s, calls...), Node: no, Socket: 1, Addr: s.address(m), Port: 7, Data: []byte{1}}
	case 1:
		return api.Move{Kind: pick(s, api.MvForward, api.MvDrop, api.MvTwin, api.MvSwap, api.MvSpoil, api.MvRecut), K: pick(s, none, -1, math.MaxInt), J: 0, Mask: 1}
	case 2:
		return api.Move{Kind: api.MvSwap, K: s.place(m), J: pick(s, none, -1, math.MaxInt)}
	case 3:
		return api.Move{Kind: api.MvSpoil, K: s.place(m), J: pick(s, -1, 70000), Mask: 1}
	case 4:
		return api.Move{Kind: api.MvRecut, K: s.place(m), J: pick(s, 67, 65536)}
	case 5:
		return api.Move{Kind: api.MvInject, Node: pick(s, 0, -1), Data: make([]byte, 65576)}
	}
	if len(m.c.Hosts) == 0 {
		return api.Move{Kind: pick(s, 0, 99)}
	}
	return api.Move{Kind: pick(s, calls...), Node: s.below(len(m.c.Hosts)), Socket: 99, Addr: api.Addr{V: 5}, Port: 7}
}

// P1: where the world beneath is moved itself nothing is promised of the ghost, but that nothing panics, and that the world's own answers are true.
func TestMovedBeneath(t *testing.T) {
	g := source(2510)
	for range 200 {
		y := g.manner()
		y.honest = false
		x := newSubject(t, g.config(y), map[string]int{})
		for i := range 150 {
			v := g.move(x.m, y)
			if g.once(2) {
				v = pick(&g, v, api.Move{Kind: api.MvTwin, K: -1 + i%7}, api.Move{Kind: api.MvSwap, K: i % 9, J: i % 7}, api.Move{Kind: api.MvSpoil, K: i % 9, J: i % 40, Mask: 3}, api.Move{Kind: api.MvRecut, K: i % 5, J: 68})
			}
			want := x.m.w.Do(v)
			x.m.numbers = make([]int, len(x.m.w.Flight())) // so that scripts know how long the flight is
			got := x.w.Do
			if g.once(3) {
				got = x.w.Net().Do
			}
			if a := got(v); !sameAnswer(a, want) {
				t.Fatalf("P25.2: Do(%+v) = %+v; want %+v", brief(v), a, want)
			}
			if !sameFlight(x.w.Flight(), x.m.w.Flight()) {
				t.Fatal("P25.2: the flights are not the same")
			}
			for k := -1; k <= len(x.m.numbers)+2; k++ {
				x.w.Of(k)
			}
			x.w.Clear()
			x.w.Sends()
		}
	}
}
