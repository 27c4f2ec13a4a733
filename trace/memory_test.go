package trace

import (
	"bytes"
	"slices"
	"testing"

	"mosaic/api"
	"mosaic/net"
)

const mark = 0xa5

// in is what is handed in for b.
func (x *subject) in(b []byte) []byte {
	if !x.rough {
		return b
	}
	room := bytes.Repeat([]byte{mark}, len(b)+16)
	copy(room, b)
	return room[:len(b)]
}

// over sees that what was handed in for b is as it was, and writes it over.
func (x *subject) over(handed, b []byte) {
	x.t.Helper()
	if !x.rough {
		return
	}
	room := handed[:cap(handed)]
	if !bytes.Equal(handed, b) || slices.ContainsFunc(room[len(b):], func(c byte) bool { return c != mark }) {
		x.t.Fatal("P25.6: what was handed in has changed")
	}
	scribble(room)
}

// scribble turns every bit of a list and of the room behind it.
func scribble(b []byte) {
	b = b[:cap(b)]
	for i := range b {
		b[i] ^= 0xff
	}
}

func scribbleFlight(l []net.Way) {
	for i := range l {
		scribble(l[i].Bytes)
		l[i].Node += 7
	}
}

func scribbleSends(l []Sent) {
	for i := range l {
		scribble(l[i].Data)
	}
	l = l[:cap(l)]
	for i := range l {
		l[i] = Sent{Number: 77}
	}
}

// P25.6: what is handed in is neither changed nor kept, nor the room behind it; what is told is new memory.
func TestMemory(t *testing.T) {
	t.Parallel()
	g := source(2503)
	for range 150 {
		y := g.manner()
		x := newSubject(t, g.config(y), map[string]int{})
		x.rough = true
		x.run(&g, y, 120)
	}
}

// roomy is a list with room behind it.
func roomy[T any](l []T) []T { return append(make([]T, 0, len(l)+20), l...) }

// overwrites sees that a list is as it was, with nothing in the room behind it, and writes all of it over.
func overwrites[T comparable](t *testing.T, l, was []T, with T) {
	t.Helper()
	if !slices.Equal(l, was) {
		t.Fatal("P25.6: New changed what it was handed")
	}
	var zero T
	all := l[:cap(l)]
	for i := range all {
		if i >= len(l) && all[i] != zero {
			t.Fatal("P25.6: New wrote behind what it was handed")
		}
		all[i] = with
	}
}

// P25.6: what New is handed is written over behind it: the world goes on by what it was, and its lists are as they were.
func TestConfigIsNotKept(t *testing.T) {
	g := source(2504)
	for range 80 {
		y := g.manner()
		c := g.config(y)
		handed := net.Config{Hosts: roomy(c.Hosts), Hops: roomy(c.Hops), Links: roomy(c.Links)}
		for i := range handed.Hosts {
			h := &handed.Hosts[i]
			h.Addrs, h.Links, h.Routes = roomy(h.Addrs), roomy(h.Links), roomy(h.Routes)
		}
		x := newSubject(t, c, map[string]int{})
		x.w = made(t, handed)
		for i, h := range handed.Hosts {
			overwrites(t, h.Addrs, c.Hosts[i].Addrs, four(0, 0))
			overwrites(t, h.Links, c.Hosts[i].Links, 70)
			overwrites(t, h.Routes, c.Hosts[i].Routes, api.Route{Net: four(9, 9), Bits: 32})
			handed.Hosts[i] = api.HostConfig{}
		}
		overwrites(t, handed.Links, c.Links, net.Link{A: 9, B: 9})
		x.run(&g, y, 100)
	}
}

// P25.6: no two lists of an answer share memory, nor do two answers.
func TestNothingIsShared(t *testing.T) {
	w := begun(t, config())
	data := pattern(100)
	for range 3 {
		does(t, w, api.Move{Kind: api.MvSend, Socket: 1, Addr: four(1, 1), Port: 7, Data: data})
	}
	scribble(data)
	want := slices.Repeat([][]byte{pattern(100)}, 6)
	all := append(w.Sends(), w.Sends()...)
	for i := range all {
		scribble(all[i].Data)
		for j := range all {
			if j != i && !bytes.Equal(all[j].Data, want[j]) {
				t.Fatalf("P25.6: the sends %d and %d share memory", i, j)
			}
		}
		scribble(all[i].Data)
	}
	for _, s := range w.Sends() {
		if !bytes.Equal(s.Data, pattern(100)) {
			t.Fatal("P25.6: a send shares memory with what was handed in")
		}
	}
	for k, x := range w.Flight() {
		if s := w.Sends()[k]; !bytes.Equal(taken(x.Bytes).Data[8:], s.Data) {
			t.Fatal("P25.6: a packet shares memory with what was handed in")
		}
	}
}

// P25.6: what was told stays as it is, whatever comes behind it.
func TestWhatIsToldStays(t *testing.T) {
	g := source(2505)
	for range 20 {
		y := g.manner()
		c := g.config(y)
		x := newSubject(t, c, map[string]int{})
		var told, was [][]Sent
		for _, v := range x.m.begin() {
			x.do(v)
		}
		for range 120 {
			x.do(g.move(x.m, y))
			told = append(told, x.w.Sends())
			var l []Sent
			for _, s := range told[len(told)-1] {
				s.Data = bytes.Clone(s.Data)
				l = append(l, s)
			}
			was = append(was, l)
		}
		if !slices.EqualFunc(told, was, sameSends) {
			t.Fatal("P25.6: what was told has changed")
		}
	}
}
