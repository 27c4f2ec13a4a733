package net

import (
	"runtime"
	"testing"
	"time"

	"mosaic/api"
)

// P24.2: behind Close no move does anything, and all that is asked is answered as ahead of it.
func TestClose(t *testing.T) {
	w := laden(t)
	sends(t, w, four(1, 1), 7, 1400, api.Flags{})
	forwards(t, w, 4, 4, 4)
	does(t, w, api.Move{Kind: api.MvTick}, api.OK)
	flight, lost, now := w.Flight(), w.Lost(), w.Now()
	var states []State
	for n := range 2 {
		s, _ := w.State(n)
		states = append(states, s)
	}
	if len(states[1].Keys) != 1 || states[1].Bytes != 1104 {
		t.Fatalf("P24.4: State(1) = %+v", states[1])
	}
	for range 3 {
		w.Close()
		for kind := -1; kind < 16; kind++ {
			for _, m := range []api.Move{{}, {Addr: four(1, 1), Port: 7, Socket: 1, Mask: 1, J: 68}, {Node: 99, K: 99}, {Node: -1, K: -1}} {
				m.Kind = kind
				stays(t, w, m, api.ErrArg)
			}
		}
		if !sameFlight(w.Flight(), flight) || w.Lost() != lost || w.Now() != now {
			t.Error("P24.2: Close has changed what is told")
		}
		for n, want := range states {
			if s, e := w.State(n); e != api.OK || !sameState(s, want) {
				t.Errorf("P24.2: State(%d) = %+v, %d; want %+v", n, s, e, want)
			}
		}
		for _, n := range []int{-1, 2, 3} {
			if s, e := w.State(n); e != api.ErrNode || !sameState(s, State{}) {
				t.Errorf("P24.2: State(%d) = %+v, %d", n, s, e)
			}
		}
	}
}

// P24.2: a world that was never moved.
func TestCloseAtOnce(t *testing.T) {
	w := made(t, config())
	w.Close()
	does(t, w, api.Move{Kind: api.MvTick}, api.ErrArg)
	if s, e := w.State(0); e != api.OK || !sameState(s, State{}) || len(w.Flight()) != 0 || w.Lost() != 0 || w.Now() != 0 {
		t.Errorf("P24.2: State(0) = %+v, %d", s, e)
	}
}

// steady is how many goroutines run, once those of earlier tests have ended.
func steady() int {
	n := runtime.NumGoroutine()
	for same := 0; same < 20; same++ {
		time.Sleep(time.Millisecond)
		if is := runtime.NumGoroutine(); is != n {
			n, same = is, 0
		}
	}
	return n
}

// settles says whether as many goroutines run as did; one that has ended may be counted a little longer.
func settles(want int) bool {
	for range 1000 {
		if runtime.NumGoroutine() <= want {
			return true
		}
		time.Sleep(time.Millisecond)
	}
	return false
}

// P24.2: each node has a worker; Close ends them all, and a refused world leaves none.
func TestWorkers(t *testing.T) {
	was := steady()
	var l []*World
	for range 20 {
		l = append(l, made(t, config()))
	}
	if n := runtime.NumGoroutine(); n < was+3*20 {
		t.Errorf("of 20 worlds of 3 nodes %d workers run", n-was)
	}
	for _, w := range l {
		does(t, w, api.Move{Kind: api.MvTick}, api.OK)
		w.Close()
	}
	if !settles(was) {
		t.Errorf("P24.2: %d workers are left", runtime.NumGoroutine()-was)
	}
	for range 20 {
		c := config()
		c.Links = c.Links[:1]
		refusedConfig(t, "a link too few", c)
	}
	if !settles(was) {
		t.Errorf("P24.1: %d workers of worlds that are none", runtime.NumGoroutine()-was)
	}
}

// P24.2: one world is closed, and another goes on.
func TestCloseOne(t *testing.T) {
	a, b := laden(t), laden(t)
	a.Close()
	forwards(t, b, 0, 0, 1)
	does(t, a, api.Move{Kind: api.MvForward}, api.ErrArg)
	ways(t, a, [2]int{2, 128}, [2]int{2, 128}, [2]int{0, 3}, [2]int{1, 0})
	ways(t, b, [2]int{0, 3}, [2]int{1, 128}, [2]int{1, 128})
}
