package net

import (
	"bytes"
	"runtime"
	"slices"
	"sync"
	"testing"

	"mosaic/api"
	"mosaic/ip4"
	"mosaic/recut"
)

// neighbours are the nodes with which a node has a link.
func neighbours(c Config, n int) []int {
	var l []int
	for _, x := range c.Links {
		if x.A == n {
			l = append(l, x.B)
		}
		if x.B == n {
			l = append(l, x.A)
		}
	}
	return l
}

// without is a flight but for one place.
func without(l []Way, k int) []Way { return slices.Concat(l[:k], l[k+1:]) }

// restStays is P24.5 and P24.6 of one accepted move, of the flights ahead of it and behind it alone.
func restStays(t *testing.T, c Config, v api.Move, was, is []Way) {
	t.Helper()
	stay, from := was, []int(nil)
	switch v.Kind {
	case api.MvSend:
		from = []int{v.Node}
	case api.MvForward:
		stay, from = without(was, v.K), []int{was[v.K].Node}
	case api.MvTick:
		for n := range c.Hosts {
			from = append(from, n)
		}
	case api.MvInject:
		if n := len(is) - 1; n != len(was) || !sameWay(is[n], Way{Node: v.Node, Bytes: v.Data}) {
			t.Fatalf("P24.5: inject: %v", is[len(was):])
		}
		is = is[:len(was)]
	case api.MvDrop:
		stay = without(was, v.K)
	case api.MvTwin:
		if !sameWay(is[v.K], is[v.K+1]) {
			t.Fatalf("P24.5: twin %d: %v and %v", v.K, is[v.K], is[v.K+1])
		}
		is = without(is, v.K+1)
	case api.MvSwap:
		stay = slices.Clone(was)
		stay[v.K], stay[v.J] = was[v.J], was[v.K]
	case api.MvSpoil:
		b := bytes.Clone(is[v.K].Bytes)
		b[v.J] ^= byte(v.Mask)
		if !sameWay(Way{Node: is[v.K].Node, Bytes: b}, was[v.K]) {
			t.Fatalf("P24.5: spoil %d %d %d: %v", v.K, v.J, v.Mask, is[v.K])
		}
		stay, is = without(was, v.K), without(is, v.K)
	case api.MvRecut:
		stay, is = without(was, v.K), withoutPieces(t, v, was, is)
	}
	if len(is) < len(stay) || !sameFlight(is[:len(stay)], stay) {
		t.Fatalf("P24.5: %+v: of %v stays %v", brief(v), was, is)
	}
	var near []int
	for _, n := range from {
		near = append(near, neighbours(c, n)...)
	}
	for _, x := range is[len(stay):] {
		if !slices.Contains(near, x.Node) {
			t.Fatalf("P24.6: %+v: a packet goes to %d; near are %v", brief(v), x.Node, near)
		}
	}
}

// withoutPieces is a flight behind a recut but for the pieces, which are of the packet that stood there.
func withoutPieces(t *testing.T, v api.Move, was, is []Way) []Way {
	t.Helper()
	n := len(is) - len(was) + 1
	var l []api.Packet
	for _, x := range is[v.K : v.K+n] {
		if x.Node != was[v.K].Node || len(x.Bytes) > v.J {
			t.Fatalf("P24.5: recut %d %d: a piece of %d bytes to %d", v.K, v.J, len(x.Bytes), x.Node)
		}
		l = append(l, taken(t, x.Bytes))
	}
	if p, _ := ip4.Parse(was[v.K].Bytes); !recut.Is(p, v.J, l) {
		t.Fatalf("P24.5: recut %d %d: %+v", v.K, v.J, l)
	}
	return slices.Concat(is[:v.K], is[v.K+n:])
}

// P24.5, P24.6: in every script the rest stays, and what comes goes over links.
func TestRestStays(t *testing.T) {
	t.Parallel()
	g := source(2403)
	seen := map[int]int{}
	for range 300 {
		c := g.config(g.manner())
		w, m := made(t, c), newModel(t, c) // the model says which moves are worth making
		for _, v := range m.begin() {
			m.do(v)
			w.Do(v)
		}
		for range 250 {
			v := g.move(m)
			was, lost := w.Flight(), w.Lost()
			m.do(v)
			a := w.Do(v)
			is := w.Flight()
			if w.Lost() != lost {
				t.Fatal("P24.4: a packet was lost in a flight with room")
			}
			if a.Code != api.OK {
				if !sameFlight(is, was) {
					t.Fatalf("P24.3: %+v is refused, and changed the flight", brief(v))
				}
				continue
			}
			seen[v.Kind]++
			restStays(t, c, v, was, is)
		}
		w.Close()
	}
	for kind := api.MvBind; kind <= api.MvTick; kind++ {
		if seen[kind] < 80 {
			t.Errorf("too few of kind %d: %v", kind, seen)
		}
	}
}

// transcript is all that a world tells in one script.
type transcript struct {
	answers []api.Answer
	flights [][]Way
	states  []State
	lost    []int
}

func sameTranscript(a, b transcript) bool {
	return slices.EqualFunc(a.answers, b.answers, sameAnswer) && slices.EqualFunc(a.flights, b.flights, sameFlight) &&
		slices.EqualFunc(a.states, b.states, sameState) && slices.Equal(a.lost, b.lost)
}

// script is a world's moves, made ahead of it.
type script struct {
	c     Config
	moves []api.Move
}

func (s *source) script(t *testing.T, moves int) script {
	t.Helper()
	c := s.config(s.manner())
	m := newModel(t, c)
	x := script{c: c, moves: m.begin()}
	for _, v := range x.moves {
		m.do(v)
	}
	for range moves {
		v := s.move(m)
		m.do(v)
		x.moves = append(x.moves, v)
	}
	return x
}

// tell is what a world tells behind a move.
func (r *transcript) tell(w *World, v api.Move) {
	r.answers = append(r.answers, w.Do(v))
	r.flights = append(r.flights, w.Flight())
	r.lost = append(r.lost, w.Lost(), int(w.Now()))
	for n := range w.hosts {
		s, _ := w.State(n)
		r.states = append(r.states, s)
	}
}

func (x script) play(t *testing.T) transcript {
	w, e := New(x.c)
	if e != api.OK {
		t.Errorf("P24.1: New = %d", e)
		return transcript{}
	}
	defer w.Close()
	var r transcript
	for _, v := range x.moves {
		r.tell(w, v)
	}
	return r
}

// P24.7: one outcome, on one processor or many, alone or beside many other worlds.
func TestOneOutcome(t *testing.T) {
	g := source(2404)
	var scripts []script
	var want []transcript
	for range 24 {
		x := g.script(t, 200)
		scripts, want = append(scripts, x), append(want, x.play(t))
	}
	defer runtime.GOMAXPROCS(runtime.GOMAXPROCS(0))
	for _, n := range []int{1, 2, 8} {
		runtime.GOMAXPROCS(n)
		var all sync.WaitGroup
		for range 4 {
			for i, x := range scripts {
				all.Go(func() {
					if !sameTranscript(x.play(t), want[i]) {
						t.Errorf("P24.7: script %d: another outcome on %d processors", i, n)
					}
				})
			}
		}
		all.Wait()
	}
}

// P24.7: worlds share nothing: many that take turns, several of them of one configuration, answer as each alone.
func TestWorldsAreApart(t *testing.T) {
	g := source(2405)
	for range 12 {
		var scripts []script
		for range 4 {
			x := g.script(t, 120)
			scripts = append(scripts, x, x)
		}
		worlds, got, at := make([]*World, 8), make([]transcript, 8), make([]int, 8)
		for i, x := range scripts {
			worlds[i] = made(t, x.c)
		}
		for left := 8; left > 0; {
			i := g.below(8)
			if at[i] == len(scripts[i].moves) {
				continue
			}
			got[i].tell(worlds[i], scripts[i].moves[at[i]])
			if at[i]++; at[i] == len(scripts[i].moves) {
				worlds[i].Close()
				left--
			}
		}
		for i, x := range scripts {
			if !sameTranscript(got[i], x.play(t)) {
				t.Fatalf("P24.7: world %d is not as it is alone", i)
			}
		}
	}
}

// What is refused changes nothing that a later call could tell: with many refused moves between a script's own, its outcome is the same.
func TestRefusedChangesNothing(t *testing.T) {
	g := source(2406)
	for range 100 {
		x := g.script(t, 150)
		w, m := made(t, x.c), newModel(t, x.c)
		for i, v := range x.moves {
			for range g.below(4) {
				r := g.refused(m)
				if a := w.Do(r); a.Code == api.OK {
					t.Fatalf("P24.3: %+v is accepted", brief(r))
				}
			}
			if got, want := w.Do(v), m.do(v); !sameAnswer(got, want) || !sameFlight(w.Flight(), m.flight) {
				t.Fatalf("P24.3: behind refused moves the move %d, %+v, is answered %+v; want %+v", i, brief(v), got, want)
			}
		}
		w.Close()
	}
}

// refused is a move that is refused in any case.
func (s *source) refused(m *model) api.Move {
	none := len(m.flight) + s.below(3)
	no := pick(s, -1, len(m.hosts), m.nodes()+5)
	kinds := []int{api.MvBind, api.MvShut, api.MvSend, api.MvRecv, api.MvEstimate}
	switch s.below(6) {
	case 0:
		return api.Move{Kind: pick(s, kinds...), Node: no, Socket: 1, Addr: s.address(m), Port: 7, Data: []byte{1}}
	case 1:
		return api.Move{Kind: pick(s, api.MvForward, api.MvDrop, api.MvTwin, api.MvSwap, api.MvSpoil, api.MvRecut), K: none, J: 0, Mask: 1}
	case 2:
		return api.Move{Kind: api.MvSwap, K: s.place(m), J: none}
	case 3:
		return api.Move{Kind: api.MvSpoil, K: s.place(m), J: pick(s, -1, 70000), Mask: 1}
	case 4:
		return api.Move{Kind: api.MvRecut, K: s.place(m), J: pick(s, 67, 65536)}
	}
	if len(m.hosts) == 0 {
		return api.Move{Kind: 99}
	}
	return api.Move{Kind: pick(s, kinds...), Node: s.below(len(m.hosts)), Socket: 99, Addr: api.Addr{V: 5}, Port: 7}
}
