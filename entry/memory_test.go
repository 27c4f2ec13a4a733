package entry

import (
	"bytes"
	"testing"

	"mosaic/api"
)

const mark = 0xa5

// roomy is a copy with marked room behind it.
func roomy(b []byte) []byte {
	room := bytes.Repeat([]byte{mark}, len(b)+64)
	copy(room, b)
	return room[:len(b)]
}

func spareIsMarked(b []byte) bool {
	for _, x := range b[len(b):cap(b)] {
		if x != mark {
			return false
		}
	}
	return true
}

// scribble turns every bit of a list and of the room behind it.
func scribble(b []byte) {
	b = b[:cap(b)]
	for i := range b {
		b[i] ^= 0xff
	}
}

// handed puts a packet that has room behind its lists, which are written over as soon as it is put.
func handed(t *testing.T, e *Entry, p api.Packet) int {
	t.Helper()
	q := p
	q.Opts, q.Data = roomy(p.Opts), roomy(p.Data)
	says := e.Put(q)
	if !same(p, q) || !spareIsMarked(q.Opts) || !spareIsMarked(q.Data) {
		t.Fatalf("Put(%s) changed what it was handed", brief(p))
	}
	scribble(q.Opts)
	scribble(q.Data)
	return says
}

// told takes both packets that an entry tells twice, writes over the first of each, and holds the second against the model.
func told(t *testing.T, e *Entry, m *model) {
	t.Helper()
	first, _ := e.First()
	whole, _ := e.Whole()
	first2, _ := e.First()
	whole2, _ := e.Whole()
	for _, b := range [][]byte{first.Opts, first.Data, whole.Opts, whole.Data} {
		scribble(b)
	}
	wantFirst, _ := m.First()
	wantWhole, _ := m.Whole()
	if !same(first2, wantFirst) || !same(whole2, wantWhole) {
		t.Fatal("an answer shares memory with another")
	}
	tells(t, e, m)
}

func TestNothingIsShared(t *testing.T) {
	g := source(145)
	for i := range 1500 {
		v := 4 + 2*(i%2)
		units, rest := 1+g.below(8), 1+g.below(8)
		k := keyOf(packet(v, 0, 0, false))
		e, m := New(k, 1), newModel(k, 1)
		for range 25 {
			p := g.fragment(v, units, rest)
			if says, want := handed(t, e, p), m.Put(p); says != want {
				t.Fatalf("P14.1: Put(%s) = %d, want %d", brief(p), says, want)
			}
			told(t, e, m)
		}
	}
}

// No list of an answer reaches into another by the room behind it.
func TestListsOfAnAnswerAreApart(t *testing.T) {
	p := with(four(0, 8, true), func(p *api.Packet) { p.Opts = []byte{130, 4, 1, 2} })
	e := New(keyOf(p), 0)
	e.Put(p)
	e.Put(four(8, 3, false))
	for _, tell := range []func() (api.Packet, bool){e.First, e.Whole} {
		got, _ := tell()
		scribble(got.Opts)
		if !bytes.Equal(got.Data, said(0, len(got.Data))) {
			t.Error("Opts reaches into Data")
		}
		scribble(got.Data)
		if again, _ := tell(); !bytes.Equal(again.Opts, p.Opts) || !bytes.Equal(again.Data, said(0, len(again.Data))) {
			t.Error("an answer reaches into the entry")
		}
	}
}

// What was told stays as it is, whatever is put behind it.
func TestWhatIsToldStays(t *testing.T) {
	p := four(0, 8, true)
	e := New(keyOf(p), 0)
	e.Put(p)
	first, _ := e.First()
	e.Put(four(0, 24, true))
	e.Put(four(24, 3, false))
	whole, is := e.Whole()
	e.Put(spoilt(p, 3))
	if !same(first, p) || !is || !same(whole, four(0, 27, false)) || !e.IsPoisoned() {
		t.Errorf("First %v, Whole %v behind further fragments", first, whole)
	}
}

// A twin, and what is ignored, leave nothing behind: later calls answer as if it had not come.
func TestTwinsChangeNothing(t *testing.T) {
	g := source(146)
	twins := 0
	for i := range 1500 {
		v := 4 + 2*(i%2)
		units, rest := 1+g.below(8), 1+g.below(8)
		k := keyOf(packet(v, 0, 0, false))
		noisy, plain, m := New(k, 1), New(k, 1), newModel(k, 1)
		for range 30 {
			p := g.fragment(v, units, rest)
			says := noisy.Put(p)
			if says == api.Twin || says == api.Ignored {
				twins++
			} else if want := plain.Put(p); says != want {
				t.Fatalf("P14.1: Put(%s) = %d behind twins, without them %d", brief(p), says, want)
			}
			m.Put(p)
			tells(t, noisy, m)
			tells(t, plain, m)
		}
	}
	if twins < 3000 {
		t.Errorf("P14.1: only %d twins", twins)
	}
}

// Entries that take turns answer as their models do, each for itself.
func TestEntriesAreApart(t *testing.T) {
	g := source(147)
	for range 150 {
		var entries [4]*Entry
		var models [4]*model
		for i := range entries {
			k := keyOf(packet(4+2*(i%2), 0, 0, false))
			entries[i], models[i] = New(k, int64(i)), newModel(k, int64(i))
		}
		for range 80 {
			i := g.below(4)
			both(t, entries[i], models[i], g.fragment(4+2*(i%2), 6, 3))
		}
		for i := range entries {
			tells(t, entries[i], models[i])
		}
	}
}
