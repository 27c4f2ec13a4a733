package net

import (
	"bytes"
	"slices"
	"testing"

	"mosaic/api"
)

// P24.8: what is handed in is neither changed nor kept, nor the room behind it; what is told is new memory.
func TestMemory(t *testing.T) {
	t.Parallel()
	g := source(2407)
	for range 250 {
		x := newSubject(t, g.config(g.manner()), map[string]int{})
		x.rough = true
		x.run(&g, 200)
		x.w.Close()
		x.tells()
		x.tells()
	}
}

// roomy is a list with room behind it.
func roomy[T any](l []T) []T { return append(make([]T, 0, len(l)+20), l...) }

// P24.8: what New is handed is written over behind it: the world goes on by what it was, and its lists are as they were.
func TestConfigIsNotKept(t *testing.T) {
	g := source(2408)
	for range 150 {
		c := g.config(g.manner())
		handed := Config{Hosts: roomy(c.Hosts), Hops: roomy(c.Hops), Links: roomy(c.Links)}
		for i := range handed.Hosts {
			h := &handed.Hosts[i]
			h.Addrs, h.Links, h.Routes = roomy(h.Addrs), roomy(h.Links), roomy(h.Routes)
		}
		for i := range handed.Hops {
			h := &handed.Hops[i]
			h.Addrs, h.Links, h.Routes = roomy(h.Addrs), roomy(h.Links), roomy(h.Routes)
		}
		x := newSubject(t, c, map[string]int{})
		x.w = made(t, handed)
		for i, h := range handed.Hosts {
			overwrites(t, h.Addrs, c.Hosts[i].Addrs, four(9, 9))
			overwrites(t, h.Links, c.Hosts[i].Links, 70)
			overwrites(t, h.Routes, c.Hosts[i].Routes, api.Route{Net: four(9, 9), Bits: 32})
			handed.Hosts[i] = api.HostConfig{}
		}
		for i, h := range handed.Hops {
			overwrites(t, h.Addrs, c.Hops[i].Addrs, four(9, 9))
			overwrites(t, h.Links, c.Hops[i].Links, 70)
			overwrites(t, h.Routes, c.Hops[i].Routes, api.Route{Net: four(9, 9), Bits: 32})
			handed.Hops[i] = api.HopConfig{}
		}
		overwrites(t, handed.Links, c.Links, Link{A: 9, B: 9})
		x.run(&g, 120)
		x.w.Close()
	}
}

// overwrites sees that a list is as it was, with nothing in the room behind it, and writes all of it over.
func overwrites[T comparable](t *testing.T, l, was []T, with T) {
	t.Helper()
	if !slices.Equal(l, was) {
		t.Fatal("P24.8: New changed what it was handed")
	}
	var zero T
	all := l[:cap(l)]
	for i := range all {
		if i >= len(l) && all[i] != zero {
			t.Fatal("P24.8: New wrote behind what it was handed")
		}
		all[i] = with
	}
}

// P24.8: no two lists of an answer share memory, those of twins neither, nor do two answers.
func TestNothingIsShared(t *testing.T) {
	w := laden(t)
	sends(t, w, four(1, 1), 7, 1400, api.Flags{})
	for k := range 5 {
		does(t, w, api.Move{Kind: api.MvTwin, K: 2 * k}, api.OK)
	}
	does(t, w, api.Move{Kind: api.MvRecut, K: 0, J: 68}, api.OK)
	var all, was [][]byte
	for range 2 {
		for _, x := range w.Flight() {
			all, was = append(all, x.Bytes), append(was, bytes.Clone(x.Bytes))
		}
	}
	for i := range all {
		scribble(all[i])
		for j := range all {
			if j != i && !bytes.Equal(all[j], was[j]) {
				t.Fatalf("P24.8: the packets %d and %d share memory", i, j)
			}
		}
		scribble(all[i])
	}
}

// P24.8: what was told stays as it is, whatever comes behind it.
func TestWhatIsToldStays(t *testing.T) {
	g := source(2409)
	for range 40 {
		c := g.config(g.manner())
		w, m := made(t, c), newModel(t, c)
		for _, v := range m.begin() {
			m.do(v)
			w.Do(v)
		}
		var told transcript
		var was transcript
		for range 150 {
			v := g.move(m)
			m.do(v)
			told.tell(w, v)
			was.note(told)
		}
		w.Close()
		if !sameTranscript(told, was) {
			t.Fatal("P24.8: what was told has changed")
		}
	}
}

// note keeps copies of what was told last.
func (r *transcript) note(told transcript) {
	a := told.answers[len(told.answers)-1]
	a.Got.Data = bytes.Clone(a.Got.Data)
	r.answers = append(r.answers, a)
	var l []Way
	for _, x := range told.flights[len(told.flights)-1] {
		l = append(l, Way{Node: x.Node, Bytes: bytes.Clone(x.Bytes)})
	}
	r.flights = append(r.flights, l)
	r.lost = slices.Clone(told.lost)
	for _, s := range told.states[len(r.states):] {
		r.states = append(r.states, State{Sockets: slices.Clone(s.Sockets), Queues: slices.Clone(s.Queues), Keys: slices.Clone(s.Keys), Bytes: s.Bytes, Paths: slices.Clone(s.Paths)})
	}
}
