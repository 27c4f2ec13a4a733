package trace

import (
	"slices"
	"testing"

	"mosaic/api"
)

// rival is a fragment of one key, as an adversary may lay it: 16 bytes from off on.
func rival(off int, more bool, id uint32) api.Packet {
	return api.Packet{V: 4, Src: four(0, 1), Dst: four(1, 1), Proto: 17, TTL: 9, ID: id, Off: off, More: more, Data: pattern(16)}
}

// P25.1: which two packets under way are of one key.
func TestClearUnderWay(t *testing.T) {
	first, last := rival(0, true, 5), rival(16, false, 5)
	six1 := api.Packet{V: 6, Src: six(0, 1), Dst: six(1, 1), Proto: 17, TTL: 9, ID: 5, Frag: true, More: true, Data: pattern(16)}
	with := func(p api.Packet, change func(p *api.Packet)) api.Packet {
		change(&p)
		return p
	}
	for _, row := range []struct {
		what string
		a, b api.Packet
		want bool
	}{
		{"the same fragment twice", first, first, false},
		{"two of one datagram", first, last, false},
		{"one in the middle", last, rival(16, true, 5), false},
		{"other data, TTL and options", first, with(first, func(p *api.Packet) { p.TTL, p.Opts, p.Data = 3, longHead, pattern(8) }), false},
		{"another identification", first, rival(0, true, 6), true},
		{"another source", first, with(first, func(p *api.Packet) { p.Src = four(0, 2) }), true},
		{"another destination", first, with(first, func(p *api.Packet) { p.Dst = four(1, 2) }), true},
		{"another protocol", first, with(first, func(p *api.Packet) { p.Proto = 1 }), true},
		{"a whole one", first, rival(0, false, 5), true},
		{"two whole ones", rival(0, false, 5), rival(0, false, 5), true},
		{"IPv6: the same fragment twice", six1, six1, false},
		{"IPv6: two of one datagram", six1, with(six1, func(p *api.Packet) { p.Off, p.More = 16, false }), false},
		{"IPv6: another identification", six1, with(six1, func(p *api.Packet) { p.ID = 6 }), true},
		{"IPv6: an atomic fragment", six1, with(six1, func(p *api.Packet) { p.More = false }), true},
		{"IPv6: without a fragment header", six1, with(six1, func(p *api.Packet) { p.More, p.Frag, p.ID = false, false, 0 }), true},
		{"two versions", first, six1, true},
	} {
		for range 2 {
			row.a, row.b = row.b, row.a
			w := begun(t, config())
			injects(t, w, 1, row.a)
			isClear(t, w, true)
			injects(t, w, 2, row.b) // to whatever node
			if w.Clear() != row.want {
				t.Errorf("P25.1: %s: Clear() = %v", row.what, w.Clear())
			}
		}
	}
}

// P25.1: bytes that are no packet are of no key.
func TestClearOfWhatIsNone(t *testing.T) {
	w := begun(t, config())
	b := laid(t, rival(0, true, 5))
	does(t, w, api.Move{Kind: api.MvInject, Node: 1, Data: b})
	for range 2 {
		b[8] ^= 1 // the TTL: the sum no longer holds
		does(t, w, api.Move{Kind: api.MvInject, Node: 1, Data: b[:len(b)-1]})
		does(t, w, api.Move{Kind: api.MvInject, Node: 1})
		isClear(t, w, true)
	}
	b[8] ^= 1
	does(t, w, api.Move{Kind: api.MvInject, Node: 1, Data: b})
	isClear(t, w, true)
	does(t, w, api.Move{Kind: api.MvSpoil, K: 5, J: 8, Mask: 1}) // now it is one
	isClear(t, w, false)
}

// P25.1: what has gone stands beside nothing any more.
func TestClearBehindGone(t *testing.T) {
	for what, goes := range map[string]api.Move{
		"dropped":                             {Kind: api.MvDrop},
		"forwarded to whom it is not for":     {Kind: api.MvForward},
		"spoilt, so that it is no packet":     {Kind: api.MvSpoil, J: 0, Mask: 255},
		"spoilt, so that it is of this other": {Kind: api.MvSpoil, J: 30, Mask: 255}, // in its data: the number is another, and the key as it was
	} {
		w := begun(t, config())
		injects(t, w, 0, rival(0, true, 5))
		does(t, w, goes)
		isClear(t, w, true)
		injects(t, w, 1, rival(0, true, 5))
		isClear(t, w, what != "spoilt, so that it is of this other")
	}
}

// P25.1: of several of one number the last one counts as well as the first.
func TestClearOfTwins(t *testing.T) {
	for dropped := range 4 {
		w := begun(t, config())
		injects(t, w, 1, rival(0, true, 5))
		for range 2 {
			does(t, w, api.Move{Kind: api.MvTwin})
		}
		isClear(t, w, true)
		for range dropped {
			does(t, w, api.Move{Kind: api.MvDrop})
		}
		injects(t, w, 1, rival(16, false, 5))
		isClear(t, w, dropped == 3)
	}
}

// P25.1: a whole packet beside a fragment, cut again: then there are fragments of two numbers; where they are parts of one, of one.
func TestClearOfRecut(t *testing.T) {
	for _, mtu := range []int{68, 1500} {
		w := begun(t, config())
		injects(t, w, 1, rival(0, true, 5))
		whole := rival(0, false, 5)
		whole.Data = pattern(100)
		injects(t, w, 1, whole)
		does(t, w, api.Move{Kind: api.MvRecut, K: 1, J: mtu})
		isClear(t, w, mtu == 1500)
	}
	w := begun(t, config())
	p := rival(0, true, 5)
	p.Data = pattern(400)
	injects(t, w, 1, p)
	does(t, w, api.Move{Kind: api.MvRecut, J: 200})
	does(t, w, api.Move{Kind: api.MvRecut, K: 1, J: 100})
	isClear(t, w, true)
	for len(w.Flight()) > 1 {
		does(t, w, api.Move{Kind: api.MvDrop, K: 1})
	}
	injects(t, w, 1, p)
	isClear(t, w, false)
}

// pieces puts three fragments of one number under way to a node: 48, 48 and 4 bytes of the rivals' key.
func pieces(t *testing.T, w *World, node int) {
	t.Helper()
	p := rival(0, false, 5)
	p.Data = pattern(100)
	injects(t, w, node, p)
	does(t, w, api.Move{Kind: api.MvRecut, K: len(w.Flight()) - 1, J: 68})
}

// leftClear: with one more fragment of the rivals' key under way, of another number, it is clear just if nothing of that key was there.
func leftClear(t *testing.T, what string, w *World, want bool) {
	t.Helper()
	isClear(t, w, true)
	injects(t, w, 2, rival(96, true, 5))
	if w.Clear() != want {
		t.Errorf("P25.1: behind %s: Clear() = %v", what, w.Clear())
	}
}

// P25.1: what a host holds of a key, and how long.
func TestHeld(t *testing.T) {
	for _, row := range []struct {
		what  string
		to    int
		come  []int // which of the pieces, in this order; one that comes twice is twinned
		ticks int
		want  bool
	}{
		{"nothing", 1, nil, 0, true},
		{"the first one", 1, []int{0}, 0, false},
		{"the middle one", 1, []int{1}, 0, false},
		{"the last one", 1, []int{2}, 0, false},
		{"two of them", 1, []int{2, 0}, 0, false},
		{"one twice", 1, []int{1, 1}, 0, false},
		{"one at its last tick", 1, []int{0}, 59, false},
		{"one that is too old", 1, []int{0}, 60, true},
		{"two that are too old", 1, []int{1, 2}, 60, true},
		{"all of them", 1, []int{2, 0, 1}, 0, true},
		{"all of them, and one again", 1, []int{0, 1, 2, 2}, 0, false},
		{"all of them, and one again, too old", 1, []int{0, 1, 2, 0}, 60, true},
		{"what is for another host", 0, []int{0, 1}, 0, true},
		{"what a router sends on", 2, nil, 0, true},
	} {
		w := begun(t, config())
		pieces(t, w, row.to)
		l := w.Flight()
		for range 3 {
			does(t, w, api.Move{Kind: api.MvDrop})
		}
		isClear(t, w, true)
		pieces(t, w, row.to) // those that stay, of a number of their own
		for _, k := range row.come {
			for i, x := range w.Flight() {
				if slices.Equal(x.Bytes, l[k].Bytes) {
					does(t, w, api.Move{Kind: api.MvTwin, K: i})
					forwards(t, w, i)
					break
				}
			}
		}
		for range 3 {
			does(t, w, api.Move{Kind: api.MvDrop})
		}
		for range row.ticks {
			isClear(t, w, true)
			does(t, w, api.Move{Kind: api.MvTick})
		}
		for len(w.Flight()) > 0 { // messages
			does(t, w, api.Move{Kind: api.MvDrop})
		}
		leftClear(t, row.what, w, row.want)
	}
}

// P25.1: an entry that goes because there are too many holds nothing any more; those that stay do.
func TestHeldPushedOut(t *testing.T) {
	for entries := 1; entries <= 3; entries++ {
		for id := range 4 {
			c := config()
			c.Hosts[1].Quota.Entries = entries
			w := begun(t, c)
			for i := range 4 {
				injects(t, w, 1, rival(0, true, uint32(i)))
				forwards(t, w, 0)
				isClear(t, w, true)
			}
			injects(t, w, 1, rival(16, true, uint32(id)))
			isClear(t, w, id < 4-entries)
		}
	}
	c := config()
	c.Hosts[1].Quota.Bytes = 15
	w := begun(t, c)
	injects(t, w, 1, rival(0, true, 5))
	forwards(t, w, 0) // it goes at once itself
	leftClear(t, "a fragment of too many bytes", w, true)
}

// P25.1: a poisoned entry holds as others do, as long as it stands.
func TestHeldPoisoned(t *testing.T) {
	for _, ticks := range []int{0, 59, 60} {
		c := config()
		c.Hosts[1].Quota.Holes = 1
		w := begun(t, c)
		pieces(t, w, 1)
		forwards(t, w, 1, 0, 0) // the middle one first: two holes
		if s, _ := w.State(1); len(s.Keys) != 1 || s.Bytes != 0 {
			t.Fatalf("no entry is poisoned: %+v", s)
		}
		for range ticks {
			does(t, w, api.Move{Kind: api.MvTick})
		}
		leftClear(t, "poison", w, ticks == 60)
	}
}

// P25.1: what one host holds counts beside what goes to another, and an entry that goes takes just its own along.
func TestHeldByAnother(t *testing.T) {
	for _, ticks := range []int{0, 5, 60} {
		c := config()
		c.Hosts[0].Addrs = append(c.Hosts[0].Addrs, four(1, 1))
		c.Hosts[0].Quota.Timeout = 5
		w := begun(t, c)
		pieces(t, w, 0)
		does(t, w, api.Move{Kind: api.MvDrop, K: 1})
		forwards(t, w, 0, 0)
		injects(t, w, 1, rival(0, true, 6))
		forwards(t, w, 0)
		for range ticks {
			does(t, w, api.Move{Kind: api.MvTick})
		}
		injects(t, w, 1, rival(48, true, 5))
		isClear(t, w, ticks > 0)
		w = begun(t, c)
		injects(t, w, 1, rival(0, true, 6))
		forwards(t, w, 0)
		for range ticks {
			does(t, w, api.Move{Kind: api.MvTick})
		}
		injects(t, w, 0, rival(48, true, 6))
		isClear(t, w, ticks == 60)
	}
}

// P25.1: once false it stays so, though all that clashed has gone.
func TestNeverClearAgain(t *testing.T) {
	w := begun(t, config())
	injects(t, w, 1, rival(0, true, 5))
	injects(t, w, 1, rival(16, false, 5))
	isClear(t, w, false)
	forwards(t, w, 0, 0)
	isClear(t, w, false)
	for range 100 {
		does(t, w, api.Move{Kind: api.MvTick})
		isClear(t, w, false)
	}
	sends(t, w, 7, 1400, api.Flags{})
	forwards(t, w, 0, 0, 0, 0)
	has(t, w)
	isClear(t, w, false)
	w.Close()
	isClear(t, w, false)
}

// P25.1: it is asked behind a move: what goes by it does not stand beside what comes by it.
func TestClearIsAskedBehind(t *testing.T) {
	w := begun(t, config())
	injects(t, w, 1, rival(0, true, 5))
	for i := range 5 { // its data is other, its key the same
		does(t, w, api.Move{Kind: api.MvSpoil, J: 30, Mask: 1 + i})
		has(t, w, 2+i)
		isClear(t, w, true)
	}
	for _, timeout := range []int64{2, 3, 4} {
		c := narrow()
		c.Hosts[0].Quota.Timeout = timeout
		w := begun(t, c)
		// Host 0 holds a fragment of the key that host 1's first message has, and that goes out at the third tick, in two.
		injects(t, w, 0, api.Packet{V: 4, Src: four(1, 1), Dst: four(0, 1), Proto: 1, TTL: 9, Off: 8, More: true, Data: pattern(16)})
		injects(t, w, 1, api.Packet{V: 4, Src: four(0, 1), Dst: four(1, 1), Proto: 17, TTL: 9, Opts: longHead, More: true, Data: pattern(16)})
		forwards(t, w, 0, 0)
		for range 3 {
			isClear(t, w, true)
			does(t, w, api.Move{Kind: api.MvTick})
		}
		has(t, w, 3, 3)
		if p := taken(w.Flight()[0].Bytes); p.Proto != 1 || p.ID != 0 || p.Src != four(1, 1) || !p.More {
			t.Fatalf("the message is %+v", p)
		}
		isClear(t, w, timeout < 4)
	}
}
