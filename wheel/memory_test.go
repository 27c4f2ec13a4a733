package wheel

import (
	"bytes"
	"runtime"
	"slices"
	"testing"
	"weak"

	"mosaic/api"
)

// A refused call, and a question, change nothing that a later call tells.
func TestRefusedAndAskedChangeNothing(t *testing.T) {
	g := source(2761)
	for range 1000 {
		now := g.ahead(0)
		w, quiet := paired(t, now), paired(t, now)
		for range 40 {
			disturb(t, &g, w.w)
			at, to, id := g.ahead(w.m.now), min(g.ahead(w.m.now), g.ahead(w.m.now)), g.name(w.m)
			for _, p := range []pair{w, quiet} {
				p.add(t, at, id)
				p.cancel(t, id)
				p.advance(t, to)
			}
		}
	}
}

// disturb makes calls that are refused, and asks.
func disturb(t *testing.T, g *source, w *Wheel[int]) {
	t.Helper()
	for range g.below(5) {
		addRefused(t, w, g.out(w.Now()), api.ErrArg)
		advanceRefused(t, w, g.out(w.Now()))
		w.Next()
		w.At(g.below(50))
		if id := g.below(50); w.Len() == 0 {
			cancels(t, w, id, false)
		}
	}
}

// Wheels that take turns answer as their models do, each for itself.
func TestWheelsAreApart(t *testing.T) {
	g := source(2762)
	var c count
	for range 100 {
		var pairs [4]pair
		for i := range pairs {
			pairs[i] = paired(t, int64(g.below(100)))
		}
		texts := made[string](t, 7)
		adds(t, texts, 9, "abc", 1)
		adds(t, texts, 8, "def", 2)
		for range 400 {
			pairs[g.below(4)].do(t, &g, &c, 6)
		}
		tells(t, texts, 20, Due[string]{2, 8, "def"}, Due[string]{1, 9, "abc"})
	}
}

// What is told is the caller's: what is written there, and behind it, is seen nowhere else.
func TestAnswersAreTheCallers(t *testing.T) {
	g := source(2763)
	for range 300 {
		p := paired(t, 0)
		var mine, copies [][]Due[int]
		for range 30 {
			for range g.below(10) {
				p.add(t, min(g.ahead(p.m.now), g.ahead(p.m.now)), g.below(100))
			}
			to := min(g.ahead(p.m.now), g.ahead(p.m.now))
			l, _ := p.w.Advance(to)
			if want, _ := p.m.Advance(to); !slices.Equal(l, want) {
				t.Fatalf("Advance(%d) = %v; want %v", to, l, want)
			}
			for i := range l {
				l[i] = Due[int]{-1, -2, len(mine)}
			}
			room := l[len(l):cap(l)]
			for i := range room {
				room[i] = Due[int]{-3, -4, len(mine)}
			}
			p.asked(t)
			mine, copies = append(mine, l), append(copies, slices.Clone(l))
		}
		for i := range mine {
			if !slices.Equal(mine[i], copies[i]) {
				t.Fatalf("the answer number %d became %v", i, mine[i])
			}
		}
	}
}

// A list comes out with its three words: what it leads to is the caller's, and is neither copied nor written to.
func TestThreeWords(t *testing.T) {
	room := bytes.Repeat([]byte{7}, 20)
	w := made[[]byte](t, 0)
	w.Add(100, room[2:5:9])
	w.Add(100, nil)
	w.Add(100, []byte{})
	w.Advance(99)
	if !bytes.Equal(room, bytes.Repeat([]byte{7}, 20)) {
		t.Error("a list, or the room behind it, was written to")
	}
	l, _ := w.Advance(100)
	if len(l) != 3 || len(l[0].X) != 3 || cap(l[0].X) != 7 || &l[0].X[0] != &room[2] || l[1].X != nil || l[2].X == nil {
		t.Errorf("told %v", l)
	}
}

// kept is for how many timers the rings have room, and how many are there.
func kept[T any](w *Wheel[T]) (int, int) {
	room, n := 0, 0
	for r := range w.rings {
		for _, slot := range w.rings[r] {
			room += cap(slot)
			n += len(slot)
			for _, d := range slot[len(slot):cap(slot)] {
				if d != nil {
					n += 1 << 32 // held behind the slot's end
				}
			}
		}
	}
	return room, n
}

// The rings hold what waits and nothing else, and have room for no more than a few times as much.
func TestKeptHangsOnWhatWaits(t *testing.T) {
	g := source(2764)
	var c count
	for range 500 {
		p := paired(t, g.ahead(0)/2)
		for range 100 {
			p.do(t, &g, &c, 5)
			if room, n := kept(p.w); n != p.w.Len() || len(p.w.waits) != n || room > 5*n {
				t.Fatalf("%d wait, %d are kept, with room for %d", p.w.Len(), n, room)
			}
		}
	}
}

// Many were in each slot, and but one is left there.
func TestRoomIsLetGo(t *testing.T) {
	w := made[int](t, 0)
	id := 0
	for k := range 41 {
		for range 3000 {
			id++
			adds(t, w, 1<<k, 0, id)
		}
		for n := range 2999 {
			cancels(t, w, id-n, true)
		}
	}
	if room, n := kept(w); n != 41 || room > 5*n {
		t.Errorf("%d are kept, with room for %d", n, room)
	}
	w.Advance(last)
	if room, n := kept(w); n != 0 || room != 0 {
		t.Errorf("%d are kept, with room for %d", n, room)
	}
}

// marked adds a new thing, and tells where it is without holding it.
func marked(w *Wheel[*[64]byte], at int64) weak.Pointer[[64]byte] {
	x := new([64]byte)
	w.Add(at, x)
	return weak.Make(x)
}

// What was told or cancelled, and what was refused, is not held any more.
func TestWhatLeftIsFree(t *testing.T) {
	w := made[*[64]byte](t, 0)
	var all []weak.Pointer[[64]byte]
	for k := range 300 {
		all = append(all, marked(w, int64(1+k%100)))
	}
	for k := range 300 {
		if k%7 == 0 {
			w.Cancel(k + 1)
		}
	}
	w.Advance(30)
	w.Advance(65)
	refused := marked(w, 64)
	runtime.GC()
	if refused.Value() != nil {
		t.Error("what was refused is held")
	}
	for k, at := range all {
		_, waits := w.At(k + 1)
		if gone := k%7 == 0 || 1+k%100 <= 65; gone == waits || gone != (at.Value() == nil) {
			t.Errorf("number %d: gone %v, waits %v, held %v", k+1, gone, waits, at.Value() != nil)
		}
	}
	runtime.KeepAlive(w)
}
