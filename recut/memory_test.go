package recut

import (
	"bytes"
	"testing"

	"mosaic/api"
)

const mark = 0xa5

// roomy is a copy with marked room behind it.
func roomy(b []byte) []byte {
	room := bytes.Repeat([]byte{mark}, len(b)+64)
	copy(room, b)
	return room[:len(b)]
}

func spareIsMarked(b []byte) bool {
	for _, x := range b[len(b):cap(b)] {
		if x != mark {
			return false
		}
	}
	return true
}

// scribble turns every bit of a list and of the room behind it.
func scribble(b []byte) {
	b = b[:cap(b)]
	for i := range b {
		b[i] ^= 0xff
	}
}

func copied(l []api.Packet) []api.Packet {
	var k []api.Packet
	for _, p := range l {
		p.Opts, p.Data = bytes.Clone(p.Opts), bytes.Clone(p.Data)
		k = append(k, p)
	}
	return k
}

// spacious is a list of packets with marked room behind every list of bytes, and room behind itself.
func spacious(l []api.Packet) []api.Packet {
	k := make([]api.Packet, 0, len(l)+3)
	for _, p := range l {
		p.Data = roomy(p.Data)
		p.Opts = roomy(p.Opts)
		k = append(k, p)
	}
	return k
}

// untouched says whether a spacious list is as it was, all room behind it too.
func untouched(l, was []api.Packet) bool {
	for _, q := range l {
		if !spareIsMarked(q.Opts) || !spareIsMarked(q.Data) {
			return false
		}
	}
	for _, q := range l[len(l):cap(l)] {
		if !same(q, api.Packet{}) {
			return false
		}
	}
	return alike(l, was)
}

// copies are packets that are alone behind Recut for 68, and such as are cut.
func copies() []api.Packet {
	return []api.Packet{four(0), four(40), four(20, both()...), four(500), four(500, many()...), four(500, both()...), piece(four(104), 80, true), piece(four(99, many()...), 8, false), six(20), piece(six(16), 8, true)}
}

func TestWhatIsHandedInStays(t *testing.T) {
	for _, was := range copies() {
		in := spacious([]api.Packet{was})
		l, e := Recut(in[0], 68)
		if e != api.OK || !untouched(in, []api.Packet{was}) {
			t.Fatalf("P11.8: what is handed to Recut is changed: %d", e)
		}
		k := spacious(l)
		if !Is(in[0], 68, k) || !untouched(k, l) || !untouched(in, []api.Packet{was}) {
			t.Fatal("P11.8: what is handed to Is is changed")
		}
		random := source(7)
		k = spacious(random.shuffled(l))
		order := copied(k)
		Join(k)
		if !untouched(k, order) {
			t.Fatal("P11.8: what is handed to Join is changed")
		}
	}
}

func TestPiecesShareNothing(t *testing.T) {
	for _, was := range copies() {
		p := spacious([]api.Packet{was})[0]
		l, _ := Recut(p, 68)
		want := copied(l)
		scribble(p.Opts)
		scribble(p.Data)
		if !alike(l, want) {
			t.Fatal("P11.8: the answer changes with what was handed in")
		}
		after := copied([]api.Packet{p})[0]
		for i := range l {
			scribble(l[i].Opts)
			if !bytes.Equal(l[i].Data, want[i].Data) {
				t.Fatalf("P11.8: the %d-th piece's options are part of its data", i)
			}
			scribble(l[i].Data)
			if !alike(l[i+1:], want[i+1:]) || !same(p, after) {
				t.Fatalf("P11.8: the %d-th piece shares its memory", i)
			}
		}
		for i := range l {
			scribble(l[i].Opts)
			scribble(l[i].Data)
		}
		if !alike(l, want) {
			t.Fatal("P11.8: two lists of one answer share their memory")
		}
		if again, _ := Recut(was, 68); !alike(again, want) {
			t.Fatal("P11.8: a later answer is another one")
		}
	}
}

func TestTheDatagramSharesNothing(t *testing.T) {
	for _, was := range []api.Packet{four(0, both()...), four(40), four(40, both()...), four(500), four(500, many()...), six(0), six(20), piece(six(16), 0, false)} {
		cut, _ := Recut(was, 68)
		l := spacious(cut)
		p, e := Join(l)
		want := copied([]api.Packet{p})[0]
		if e != api.OK {
			t.Fatalf("P11.3: %d", e)
		}
		for _, q := range l {
			scribble(q.Opts)
			scribble(q.Data)
		}
		if !same(p, want) {
			t.Fatal("P11.8: the datagram changes with what was handed in")
		}
		after := copied(l)
		scribble(p.Opts)
		if !bytes.Equal(p.Data, want.Data) {
			t.Fatal("P11.8: the datagram's options are part of its data")
		}
		scribble(p.Data)
		if !alike(l, after) {
			t.Fatal("P11.8: what was handed in changes with the datagram")
		}
		if again, _ := Join(cut); !same(again, want) {
			t.Fatal("P11.8: a later answer is another one")
		}
	}
}
