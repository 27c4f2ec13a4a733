package cut

import (
	"bytes"
	"testing"

	"mosaic/api"
)

const mark = 0xa5

// roomy is a copy with marked room behind it.
func roomy(b []byte) []byte {
	room := bytes.Repeat([]byte{mark}, len(b)+64)
	copy(room, b)
	return room[:len(b)]
}

func spareIsMarked(b []byte) bool {
	for _, x := range b[len(b):cap(b)] {
		if x != mark {
			return false
		}
	}
	return true
}

func scribble(b []byte) {
	b = b[:cap(b)]
	for i := range b {
		b[i] ^= 0xff
	}
}

func copied(l []api.Packet) []api.Packet {
	var k []api.Packet
	for _, p := range l {
		k = append(k, own(p))
	}
	return k
}

// copies are packets that are alone behind Cut, and such as are cut.
func copies() []api.Packet {
	return []api.Packet{four(40), four(20, alert()...), four(1000), four(1000, options()...), four(1000, alert()...), four(0), six(100), six(3000)}
}

func TestWhatIsHandedInStays(t *testing.T) {
	for _, was := range copies() {
		p := was
		p.Opts, p.Data = roomy(was.Opts), roomy(was.Data)
		if was.V == 6 {
			p.Opts = nil
		}
		l, e := Cut(p, max(68, 1280*(was.V/6)), 3)
		if e != api.OK || !same(p, was) || !spareIsMarked(p.Data) || !spareIsMarked(p.Opts) {
			t.Fatalf("what is handed to Cut is changed: %d", e)
		}
		k := copied(l)
		for i := range k {
			k[i].Opts, k[i].Data = roomy(k[i].Opts), roomy(k[i].Data)
		}
		if !Is(p, 1280, k) || !alike(k, l) || !same(p, was) {
			t.Fatal("what is handed to Is is changed")
		}
		for _, q := range k {
			if !spareIsMarked(q.Data) || !spareIsMarked(q.Opts) {
				t.Fatal("the room behind what is handed to Is is changed")
			}
		}
	}
}

func TestNothingIsShared(t *testing.T) {
	for _, was := range copies() {
		p := was
		p.Opts, p.Data = roomy(was.Opts), roomy(was.Data)
		mtu := max(68, 1280*(was.V/6))
		l, _ := Cut(p, mtu, 3)
		want := copied(l)
		scribble(p.Opts)
		scribble(p.Data)
		if !alike(l, want) {
			t.Fatal("the answer changes with what was handed in")
		}
		after := p
		after.Opts, after.Data = bytes.Clone(p.Opts), bytes.Clone(p.Data)
		for i := range l {
			for _, b := range [][]byte{l[i].Opts, l[i].Data} {
				scribble(b)
			}
			if !alike(l[i+1:], want[i+1:]) || !same(p, after) {
				t.Fatalf("the %d-th piece shares its memory", i)
			}
		}
		for i := range l {
			scribble(l[i].Opts)
			scribble(l[i].Data)
		}
		if !alike(l, want) {
			t.Fatal("two lists of one answer share their memory")
		}
		again, _ := Cut(was, mtu, 3)
		if !alike(again, want) {
			t.Fatal("a later answer is another one")
		}
	}
}

func TestOptionsAndDataOfOnePiece(t *testing.T) {
	l, _ := Cut(four(1000, alert()...), 68, 0)
	for i, q := range l {
		before := bytes.Clone(q.Data)
		scribble(q.Opts)
		if !bytes.Equal(before, q.Data) {
			t.Fatalf("the %d-th piece's options are part of its data", i)
		}
	}
}
