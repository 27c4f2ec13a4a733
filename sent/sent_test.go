package sent

import (
	"math"
	"strings"
	"testing"

	"mosaic/api"
)

func TestNew(t *testing.T) {
	for n := -3; n <= 70; n++ {
		w, e := New(n)
		if taken := n >= 0 && n <= 64; taken != (e == api.OK) || taken != (w != nil) || !taken && e != api.ErrArg {
			t.Errorf("P17.1: New(%d) = %v, %d", n, w, e)
		}
		if w != nil && w.Len() != 0 {
			t.Errorf("P17.1: New(%d).Len() = %d", n, w.Len())
		}
	}
	for _, n := range []int{math.MinInt, math.MinInt32, -64, 1 << 16, 1<<32 + 2, math.MaxInt32, math.MaxInt} {
		if w, e := New(n); w != nil || e != api.ErrArg {
			t.Errorf("P17.1: New(%d) = %v, %d", n, w, e)
		}
	}
}

// notes is a Note that is taken, and how many are remembered behind it.
func notes(t *testing.T, w *Window, p api.Packet, cut bool, id uint32, n int) {
	t.Helper()
	if e := w.Note(p, cut, id); e != api.OK || w.Len() != n {
		t.Errorf("P17.1: Note(%+v, %v, %d) = %d, Len() = %d; want 0, %d", p, cut, id, e, w.Len(), n)
	}
}

// match is a Match and the length that it has to tell; 0: there is none.
func match(t *testing.T, promise string, w *Window, q api.Packet, want int) {
	t.Helper()
	if n, is := w.Match(q); n != want || is != (want > 0) {
		t.Errorf("%s: Match(%+v) = %d, %v; want %d", promise, q, n, is, want)
	}
}

func TestExampleFour(t *testing.T) {
	w, _ := made(t, 2)
	p := four(7, "abc")
	notes(t, w, p, false, 0, 1)
	match(t, "P17.1", w, p, 23)
	match(t, "P17.1", w, with(p, func(p *api.Packet) { p.TTL, p.TOS, p.More = 1, 9, true }), 23)
	match(t, "P17.1", w, four(8, "abc"), 0)
	match(t, "P17.1", w, with(p, func(p *api.Packet) { p.Off = 8 }), 0)
	match(t, "P17.1", w, four(7, "abd"), 0)
	match(t, "P17.1", w, four(7, "abcd"), 23)
	match(t, "P17.1", w, four(7, "ab"), 0)
	if w.Len() != 1 {
		t.Errorf("P17.1: Len() = %d", w.Len())
	}
	notes(t, w, four(8, "abc"), false, 0, 2)
	match(t, "P17.1", w, p, 23)
	notes(t, w, four(9, "abc"), false, 0, 2)
	match(t, "P17.1", w, p, 0)
}

func TestExampleSix(t *testing.T) {
	q := six(strings.Repeat("0123456789", 200))
	first := func(id uint32) api.Packet {
		return with(headed(q, id), func(p *api.Packet) { p.Data, p.More = p.Data[:1232], true })
	}
	w, _ := made(t, 2)
	notes(t, w, q, true, 9, 1)
	match(t, "P17.1", w, q, 0)
	match(t, "P17.1", w, first(9), 2040)
	match(t, "P17.1", w, first(8), 0)
	w, _ = made(t, 2)
	notes(t, w, q, false, 9, 1)
	match(t, "P17.1", w, q, 2040)
	match(t, "P17.1", w, first(9), 0)
	match(t, "P17.1", w, first(0), 0)
}

func TestExampleOfNone(t *testing.T) {
	w, _ := made(t, 0)
	for range 3 {
		notes(t, w, four(7, "abc"), false, 0, 0)
		match(t, "P17.1", w, four(7, "abc"), 0)
		notes(t, w, six("abc"), true, 1, 0)
		match(t, "P17.1", w, headed(six("abc"), 1), 0)
	}
	// One of none is refused as in any other.
	if e := w.Note(four(7, "abc"), true, 1); e != api.ErrArg {
		t.Errorf("P17.1: Note = %d", e)
	}
}

func TestRefusedNotes(t *testing.T) {
	w, m := made(t, 3)
	for i, d := range refused {
		if e := both(t, w, m, d); e != api.ErrArg || w.Len() != 0 {
			t.Errorf("P17.1: wrong note %d: %d, Len() = %d", i, e, w.Len())
		}
		match(t, "P17.1", w, d.p, 0)
	}
}

// Each field by itself: what counts, and what does not.
func TestEachField(t *testing.T) {
	text := "abcdefghijkl"
	for _, c := range []struct {
		d      note
		q      api.Packet
		length int
	}{
		{note{p: four(7, text)}, four(7, text), 32},
		{note{p: four(7, "abc")}, four(7, "abc"), 23},
		{note{p: six(text)}, six(text), 52},
		{note{p: six(text), cut: true, id: 9}, headed(six(text), 9), 52},
		{note{p: six("abc"), cut: true}, headed(six("abc"), 0), 43},
	} {
		w, m := made(t, 4)
		both(t, w, m, c.d)
		match(t, "P17.1", w, c.q, c.length)
		for _, x := range changes() {
			want := 0
			if x.free {
				want = c.length
			}
			if n, is := w.Match(with(c.q, x.change)); n != want || is != x.free {
				t.Errorf("P17.3: V %d, %s: %d, %v; want %d", c.q.V, x.name, n, is, want)
			}
		}
	}
}

// Every bit that counts is asked for.
func TestEachBit(t *testing.T) {
	for _, c := range []struct {
		d note
		q api.Packet
	}{
		{note{p: four(7, "abcdefghijkl")}, four(7, "abcdefghijkl")},
		{note{p: four(65535, "abc")}, four(65535, "abc")},
		{note{p: six("abcdefgh")}, six("abcdefgh")},
		{note{p: six("abcdefg"), cut: true, id: math.MaxUint32}, headed(six("abcdefg"), math.MaxUint32)},
	} {
		w, m := made(t, 1)
		both(t, w, m, c.d)
		if !asked(t, w, m, c.q) {
			t.Fatalf("P17.1: %+v does not match", c.q)
		}
		none := func(what string, at int, change func(*api.Packet)) {
			if n, is := w.Match(with(c.q, change)); n != 0 || is {
				t.Errorf("P17.3: V %d, another bit %d of %s: %d, %v", c.q.V, at, what, n, is)
			}
		}
		for i := range 128 {
			none("Src", i, func(q *api.Packet) { q.Src.B[i/8] ^= 1 << (i % 8) })
			none("Dst", i, func(q *api.Packet) { q.Dst.B[i/8] ^= 1 << (i % 8) })
		}
		for i := range 64 {
			none("Proto", i, func(q *api.Packet) { q.Proto ^= 1 << i })
			none("V", i, func(q *api.Packet) { q.V ^= 1 << i })
			none("Off", i, func(q *api.Packet) { q.Off ^= 1 << i })
		}
		for i := range 32 {
			none("ID", i, func(q *api.Packet) { q.ID ^= 1 << i })
		}
		for i := range 8 * min(8, len(c.q.Data)) {
			none("Data", i, func(q *api.Packet) { q.Data[i/8] ^= 1 << (i % 8) })
		}
	}
}

// Of Data the first 8 bytes count, or all, if there are fewer.
func TestFirstBytes(t *testing.T) {
	text := "abcdefghijklmnopqrst"
	for n := range 20 {
		for _, v := range []int{4, 6} {
			p, head := four(7, text[:n]), 20
			if v == 6 {
				p, head = six(text[:n]), 40
			}
			w, m := made(t, 1)
			both(t, w, m, note{p: p})
			for k := range 21 {
				q := with(p, func(p *api.Packet) { p.Data = []byte(text[:k]) })
				want := 0
				if k >= min(n, 8) {
					want = head + n
				}
				match(t, "P17.1", w, q, want)
			}
			for k := range n {
				q := with(p, func(p *api.Packet) { p.Data[k] = '?' })
				want := 0
				if k >= 8 {
					want = head + n
				}
				match(t, "P17.1", w, q, want)
			}
		}
	}
}

// The length is that of the whole packet, whatever the quote has.
func TestLengths(t *testing.T) {
	ones := strings.Repeat("\x01", 40)
	for _, c := range []struct {
		p      api.Packet
		length int
	}{
		{four(0, ""), 20},
		{with(four(0, ""), func(p *api.Packet) { p.Opts = []byte(ones) }), 60},
		{with(four(65535, "abc"), func(p *api.Packet) { p.Opts, p.DF = []byte(ones[:4]), true }), 27},
		{four(1, strings.Repeat("a", 65515)), 65535},
		{with(four(1, strings.Repeat("a", 65475)), func(p *api.Packet) { p.Opts = []byte(ones) }), 65535},
		{six(""), 40},
		{six(strings.Repeat("a", 65535)), 65575},
	} {
		w, _ := made(t, 1)
		notes(t, w, c.p, false, 5, 1)
		match(t, "P17.1", w, c.p, c.length)
		match(t, "P17.1", w, with(c.p, func(p *api.Packet) { p.Opts, p.Data = nil, p.Data[:min(8, len(p.Data))] }), c.length)
		if c.p.V == 6 { // cut or not, its length is the one ahead of cutting
			notes(t, w, c.p, true, 5, 1)
			match(t, "P17.1", w, headed(c.p, 5), c.length)
		}
	}
}

// id counts with cut alone.
func TestIDWithoutCut(t *testing.T) {
	for _, id := range []uint32{0, 1, 7, 9, 65535, 65536, math.MaxUint32} {
		w, _ := made(t, 2)
		notes(t, w, four(7, "abc"), false, id, 1)
		match(t, "P17.1", w, four(7, "abc"), 23)
		if id != 7 {
			match(t, "P17.1", w, four(id, "abc"), 0)
		}
		notes(t, w, six("abc"), false, id, 2)
		match(t, "P17.1", w, six("abc"), 43)
		match(t, "P17.1", w, headed(six("abc"), id), 0)
		match(t, "P17.1", w, with(six("abc"), func(p *api.Packet) { p.ID = id | 1 }), 0)
		notes(t, w, six("abc"), true, id, 2)
		match(t, "P17.1", w, headed(six("abc"), id), 43)
		match(t, "P17.1", w, headed(six("abc"), id^1), 0)
		match(t, "P17.1", w, with(six("abc"), func(p *api.Packet) { p.ID = id }), map[bool]int{true: 43}[id == 0])
	}
}

// Of several that look alike the latest is told; is it forgotten, so are those ahead of it.
func TestLatestOfAlike(t *testing.T) {
	w, _ := made(t, 3)
	q := four(7, "abcdefgh")
	for n := 8; n < 30; n++ {
		notes(t, w, four(7, "abcdefgh"+strings.Repeat("x", n-8)), false, 0, min(n-7, 3))
		match(t, "P17.2", w, q, 20+n)
	}
	for n := 5; n >= 0; n-- { // shorter ones, which ask for less
		notes(t, w, four(7, "abcdefgh"[:n]), false, 0, 3)
		match(t, "P17.2", w, q, 20+n)
	}
	notes(t, w, four(8, ""), false, 0, 3)
	match(t, "P17.2", w, q, 20)
	notes(t, w, four(8, ""), false, 0, 3)
	match(t, "P17.2", w, q, 20)
	notes(t, w, four(8, ""), false, 0, 3)
	match(t, "P17.2", w, q, 0)
	// A later one that only begins alike does not stand ahead of the one that is quoted.
	notes(t, w, four(7, "abcdefgh"), false, 0, 3)
	notes(t, w, four(7, "abcdXfgh!"), false, 0, 3)
	match(t, "P17.2", w, q, 28)
}

// Windows of every n remember just the last n.
func TestLastOnes(t *testing.T) {
	for n := range 65 {
		w, _ := made(t, n)
		for k := range 3*n + 3 {
			notes(t, w, four(uint32(k), "a"), false, 0, min(k+1, n))
			match(t, "P17.2", w, four(uint32(k), "a"), map[bool]int{true: 21}[n > 0])
			if k >= n {
				match(t, "P17.2", w, four(uint32(k-n), "a"), 0)
			}
			if n > 0 && k >= n-1 {
				match(t, "P17.2", w, four(uint32(k-n+1), "a"), 21)
			}
		}
	}
}

// Wild packets are asked for, and none of them is there.
func TestWildQuotes(t *testing.T) {
	w, m := made(t, 8)
	both(t, w, m, note{p: four(0, "")})
	both(t, w, m, note{p: six("")})
	both(t, w, m, note{p: six(""), cut: true})
	for _, q := range append(wrongPackets(), api.Packet{V: -1, Off: math.MinInt, Proto: math.MaxInt}) {
		asked(t, w, m, q)
	}
}
