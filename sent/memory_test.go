package sent

import (
	"bytes"
	"testing"

	"mosaic/api"
)

const mark = 0xa5

// roomy is a copy with marked room behind it.
func roomy(b []byte) []byte {
	room := bytes.Repeat([]byte{mark}, len(b)+64)
	copy(room, b)
	return room[:len(b)]
}

// stays says whether a list is what it was, and the room behind it too.
func stays(b, was []byte) bool {
	return bytes.Equal(b[:cap(b)], roomy(was)[:len(was)+64])
}

// scribble turns every bit of a list and of the room behind it.
func scribble(b []byte) {
	b = b[:cap(b)]
	for i := range b {
		b[i] ^= 0xff
	}
}

// handed calls with a packet that has room behind its lists, and writes over them as soon as the call has answered.
func handed(t *testing.T, p api.Packet, call func(api.Packet)) {
	t.Helper()
	q := p
	q.Opts, q.Data = roomy(p.Opts), roomy(p.Data)
	call(q)
	if !stays(q.Opts, p.Opts) || !stays(q.Data, p.Data) {
		t.Fatal("P17.1: a call changed what it was handed")
	}
	scribble(q.Opts)
	scribble(q.Data)
}

func TestNothingIsSharedOrChanged(t *testing.T) {
	g := source(1750)
	for range 500 {
		w, m := made(t, g.below(6))
		for range 60 {
			d := g.note()
			handed(t, d.p, func(p api.Packet) { both(t, w, m, note{p, d.cut, d.id}) })
			handed(t, g.quote(m), func(q api.Packet) { asked(t, w, m, q) })
		}
	}
}

// Match and Len change nothing, and neither does a Note that is refused.
func TestRefusedAndAskedChangeNothing(t *testing.T) {
	g := source(1751)
	for range 300 {
		n := g.below(5)
		w, m := made(t, n)
		quiet, _ := made(t, n)
		for range 40 {
			d := g.note()
			both(t, w, m, d)
			quiet.Note(d.p, d.cut, d.id)
			for range g.below(4) {
				b := refused[g.below(len(refused))]
				if e := w.Note(b.p, b.cut, b.id); e != api.ErrArg || w.Len() != m.Len() {
					t.Fatalf("P17.1: Note(%+v) = %d, Len() = %d", b, e, w.Len())
				}
				asked(t, w, m, g.quote(m))
			}
			q := g.quote(m)
			a, is := w.Match(q)
			if b, f := quiet.Match(q); a != b || is != f || w.Len() != quiet.Len() {
				t.Fatalf("P17.1: Match(%+v) = %d, %v; undisturbed %d, %v", q, a, is, b, f)
			}
		}
	}
}

// Windows that take turns answer as their models do, each for itself.
func TestWindowsAreApart(t *testing.T) {
	g := source(1752)
	for range 100 {
		var windows [4]*Window
		var models [4]*model
		for i := range windows {
			windows[i], models[i] = made(t, g.below(5))
		}
		for range 200 {
			i := g.below(4)
			both(t, windows[i], models[i], g.note())
			i = g.below(4)
			asked(t, windows[i], models[i], g.quote(models[i]))
		}
	}
}

// Lists without elements are the same, nil or not.
func TestNilAndEmpty(t *testing.T) {
	for _, p := range []api.Packet{four(7, ""), six("")} {
		none, empty := p, p
		none.Opts, none.Data = nil, nil
		empty.Opts, empty.Data = []byte{}, []byte{}
		for _, noted := range []api.Packet{none, empty} {
			w, m := made(t, 1)
			both(t, w, m, note{p: noted})
			if !asked(t, w, m, none) || !asked(t, w, m, empty) {
				t.Error("P17.1: nil and empty differ")
			}
		}
	}
}

// What is kept hangs on the window alone, not on how long or how many the datagrams were.
func TestLittleIsKept(t *testing.T) {
	w, _ := made(t, 5)
	long := six("")
	long.Data = make([]byte, 65535)
	for range 20000 {
		if e := w.Note(long, true, 1); e != api.OK {
			t.Fatal(e)
		}
	}
	if w.Len() != 5 || cap(w.last) > 16 {
		t.Errorf("%d are remembered in room for %d", w.Len(), cap(w.last))
	}
	for _, d := range w.last {
		if cap(d.front) > 16 {
			t.Errorf("of a datagram's data %d bytes are kept", cap(d.front))
		}
	}
}
