package sum

import (
	"bytes"
	"math"
	"math/big"
	"testing"
)

// edges are the words near which folding, swapping and the two zeros go wrong.
var edges = []uint16{0, 1, 2, 0xfe, 0xff, 0x100, 0x101, 0x7fff, 0x8000, 0x8001, 0xff00, 0xff01, 0xfffd, 0xfffe, 0xffff}

// source is a plain generator, so that every run sees the same inputs.
type source uint64

func (s *source) next() uint64 {
	*s ^= *s << 13
	*s ^= *s >> 7
	*s ^= *s << 17
	return uint64(*s)
}

func (s *source) below(n int) int { return int(s.next() % uint64(n)) }

func (s *source) word() uint16 { return uint16(s.next() >> 20) }

// text is n bytes, in which 0 and 255 are frequent.
func (s *source) text(n int) []byte {
	b := make([]byte, n)
	for i := range b {
		switch s.below(4) {
		case 0:
			b[i] = 0
		case 1:
			b[i] = 255
		default:
			b[i] = byte(s.next() >> 30)
		}
	}
	return b
}

// texts are strings of all short lengths, all alike or mixed, and some long ones.
func texts() [][]byte {
	s := source(1)
	list := [][]byte{nil, {}}
	for n := 1; n <= 33; n++ {
		list = append(list, make([]byte, n), bytes.Repeat([]byte{255}, n), s.text(n), s.text(n), s.text(n))
	}
	for _, n := range []int{255, 256, 1279, 1280, 1500, 65534, 65535, 65536, 65575} {
		list = append(list, bytes.Repeat([]byte{255}, n), s.text(n))
	}
	return list
}

// shown is a text short enough to be told.
func shown(b []byte) []byte { return b[:min(len(b), 40)] }

// sumOf is the document's one's complement sum, with numbers that lose nothing.
func sumOf(words ...uint16) uint16 {
	plain := new(big.Int)
	for _, w := range words {
		plain.Add(plain, big.NewInt(int64(w)))
	}
	if plain.Sign() == 0 {
		return 0
	}
	rest := plain.Mod(plain, big.NewInt(65535)).Int64()
	if rest == 0 {
		return 65535
	}
	return uint16(rest)
}

// wordsOf are the document's words of bytes.
func wordsOf(b []byte) []uint16 {
	words := make([]uint16, (len(b)+1)/2)
	for i, c := range b {
		if i%2 == 0 {
			words[i/2] += uint16(c) * 256
		} else {
			words[i/2] += uint16(c)
		}
	}
	return words
}

// bytesOf are words as bytes.
func bytesOf(words []uint16) []byte {
	var b []byte
	for _, w := range words {
		b = append(b, byte(w>>8), byte(w))
	}
	return b
}

func swapped(w uint16) uint16 { return w%256*256 + w/256 }

func allZero(b []byte) bool {
	for _, c := range b {
		if c != 0 {
			return false
		}
	}
	return true
}

// put is b with a word of it changed.
func put(b []byte, place int, w uint16) []byte {
	n := bytes.Clone(b)
	n[place], n[place+1] = byte(w>>8), byte(w)
	return n
}

// P1.1: Part and Of, the document's examples and hard places.
func TestPartExamples(t *testing.T) {
	head := []byte{0x45, 0, 0, 0x1c, 0, 0, 0x40, 0, 0x40, 0x11, 0, 0, 10, 0, 0, 1, 10, 0, 0, 2}
	for _, c := range []struct {
		b    []byte
		part uint16
	}{
		{nil, 0}, {[]byte{}, 0},
		{[]byte{0}, 0}, {[]byte{0, 0}, 0}, {[]byte{0, 0, 0}, 0},
		{[]byte{1}, 256}, {[]byte{255}, 0xff00}, {[]byte{0, 1}, 1},
		{[]byte{1, 2, 3}, 0x0402}, {[]byte{1, 2, 3, 4, 5}, 0x0906},
		{[]byte{0xff, 0xff, 0, 1}, 1}, {[]byte{0x80, 0, 0x80, 1}, 2},
		{[]byte{0xff, 0xff}, 65535}, {[]byte{0xff, 0xff, 0xff, 0xff}, 65535}, {[]byte{0xff, 0xff, 0, 0}, 65535},
		{[]byte{0xff, 0xfe, 0, 1}, 65535}, {[]byte{0xff, 0, 0, 0xff}, 65535},
		{head, 0xd930},
		{bytes.Repeat([]byte{255}, 65574), 65535}, {bytes.Repeat([]byte{255}, 65575), 0xff00},
	} {
		if p := Part(c.b); p != c.part {
			t.Errorf("Part(% x) = %#x, want %#x", shown(c.b), p, c.part)
		}
		if s := Of(c.b); s != 65535-c.part {
			t.Errorf("Of(% x) = %#x, want %#x", shown(c.b), s, 65535-c.part)
		}
	}
	if s := Of(head); s != 0x26cf {
		t.Errorf("Of(head) = %#x, want 0x26cf", s)
	}
}

// P1.1: Part and Of, against the document's words.
func TestPartModel(t *testing.T) {
	for _, b := range texts() {
		want := sumOf(wordsOf(b)...)
		if p := Part(b); p != want {
			t.Errorf("Part of %d bytes % x = %#x, want %#x", len(b), shown(b), p, want)
		}
		if s := Of(b); s != 65535-want {
			t.Errorf("Of of %d bytes % x = %#x, want %#x", len(b), shown(b), s, 65535-want)
		}
	}
	for w := range 65536 {
		if p := Part([]byte{byte(w >> 8), byte(w)}); int(p) != w {
			t.Fatalf("Part of the word %#x = %#x", w, p)
		}
	}
	for c := range 256 {
		if p := Part([]byte{byte(c)}); int(p) != c*256 {
			t.Fatalf("Part of the byte %#x = %#x", c, p)
		}
	}
}

// P1.1: a plain sum above 2^32 loses nothing.
func TestPartVeryLong(t *testing.T) {
	b := bytes.Repeat([]byte{0xff, 0xfd}, 70000)
	want := sumOf(wordsOf(b)...)
	if p := Part(b); p != want {
		t.Errorf("Part of %d bytes = %#x, want %#x", len(b), p, want)
	}
	if p := Part(b[:len(b)-1]); p != sumOf(wordsOf(b[:len(b)-1])...) {
		t.Errorf("Part of %d bytes = %#x", len(b)-1, p)
	}
}

// P1.1: Add, against the document's words.
func TestAddModel(t *testing.T) {
	for _, c := range [][3]uint16{{0, 0, 0}, {0xffff, 0xffff, 0xffff}, {1, 0xfffe, 0xffff}, {1, 0xffff, 1}, {0, 0xffff, 0xffff}, {0xffff, 0, 0xffff}, {0x8000, 0x8000, 1}, {3, 4, 7}} {
		if s := Add(c[0], c[1]); s != c[2] {
			t.Errorf("Add(%#x, %#x) = %#x, want %#x", c[0], c[1], s, c[2])
		}
	}
	s := source(2)
	for range 20000 {
		a, b := s.word(), s.word()
		if got := Add(a, b); got != sumOf(a, b) {
			t.Fatalf("Add(%#x, %#x) = %#x, want %#x", a, b, got, sumOf(a, b))
		}
	}
}

// P1.1: Join at any n, of which just the oddness counts.
func TestJoinModel(t *testing.T) {
	for _, c := range []struct {
		a    uint16
		n    int
		b    uint16
		want uint16
	}{
		{0x0402, 3, 0x0405, 0x0906}, {0x0402, 4, 0x0405, 0x0807},
		{256, -3, 2, 768}, {256, -4, 2, 258}, {256, -1, 2, 768},
		{0, 1, 0, 0}, {0, 0, 0xffff, 0xffff}, {0, 7, 0xffff, 0xffff}, {0xffff, 0, 1, 1}, {0xffff, 1, 1, 256},
		{0, math.MaxInt, 1, 256}, {0, math.MaxInt - 1, 1, 1}, {0, math.MinInt, 1, 1}, {0, math.MinInt + 1, 1, 256},
	} {
		if s := Join(c.a, c.n, c.b); s != c.want {
			t.Errorf("Join(%#x, %d, %#x) = %#x, want %#x", c.a, c.n, c.b, s, c.want)
		}
	}
	for _, a := range edges {
		for _, b := range edges {
			for n := -6; n <= 6; n += 2 {
				if s := Join(a, n, b); s != sumOf(a, b) {
					t.Errorf("Join(%#x, %d, %#x) = %#x, want %#x", a, n, b, s, sumOf(a, b))
				}
				if s := Join(a, n+1, b); s != sumOf(a, swapped(b)) {
					t.Errorf("Join(%#x, %d, %#x) = %#x, want %#x", a, n+1, b, s, sumOf(a, swapped(b)))
				}
			}
		}
	}
}

// P1.1: Patch at all kinds of arguments, such as no bytes have too.
func TestPatchModel(t *testing.T) {
	check := func(s, was, now uint16) {
		t.Helper()
		if got, want := Patch(s, was, now), 65535-sumOf(65535-s, 65535-was, now); got != want {
			t.Errorf("Patch(%#x, %#x, %#x) = %#x, want %#x", s, was, now, got, want)
		}
	}
	for _, s := range edges {
		for _, was := range edges {
			for _, now := range edges {
				check(s, was, now)
			}
		}
	}
	g := source(3)
	for range 20000 {
		check(g.word(), g.word(), g.word())
	}
	if got := Patch(65535, 65535, 0); got != 65535 {
		t.Errorf("Patch(65535, 65535, 0) = %d, want 65535", got)
	}
}

// P1.1: what was asked ahead changes no answer.
func TestAnswersHangOnArgumentsAlone(t *testing.T) {
	list := texts()
	parts := make([]uint16, len(list))
	for i, b := range list {
		parts[i] = Part(b)
	}
	for i := len(list) - 1; i >= 0; i-- {
		Of(list[len(list)-1-i])
		Patch(parts[i], 1, 2)
		if p := Part(bytes.Clone(list[i])); p != parts[i] {
			t.Errorf("Part of %d bytes was %#x, then %#x", len(list[i]), parts[i], p)
		}
	}
}

// P1.2: cut in two anywhere.
func TestJoinOfTwoPieces(t *testing.T) {
	for _, b := range texts() {
		step := 1 + len(b)/50
		if step > 1 {
			step |= 1 // so that both odd and even places are met
		}
		for i := 0; i <= len(b); i += step {
			if p := Join(Part(b[:i]), i, Part(b[i:])); p != Part(b) {
				t.Errorf("%d bytes % x cut at %d: %#x, want %#x", len(b), shown(b), i, p, Part(b))
			}
		}
	}
}

// P1.2: three pieces, grouped from the front and from behind.
func TestJoinOfThreePieces(t *testing.T) {
	s := source(4)
	for n := range 14 {
		for _, b := range [][]byte{s.text(n), s.text(n), make([]byte, n), bytes.Repeat([]byte{255}, n)} {
			for i := 0; i <= n; i++ {
				for j := i; j <= n; j++ {
					x, y, z := Part(b[:i]), Part(b[i:j]), Part(b[j:])
					front := Join(Join(x, i, y), j, z)
					behind := Join(x, i, Join(y, j-i, z))
					if front != Part(b) || behind != Part(b) {
						t.Errorf("% x cut at %d and %d: %#x and %#x, want %#x", b, i, j, front, behind, Part(b))
					}
				}
			}
		}
	}
}

// P1.2: many pieces, from the front.
func TestJoinOfManyPieces(t *testing.T) {
	s := source(5)
	for range 200 {
		b := s.text(s.below(3000))
		var sum uint16
		at := 0
		for at < len(b) {
			n := min(s.below(60), len(b)-at)
			sum = Join(sum, at, Part(b[at:at+n]))
			at += n
		}
		if sum != Part(b) {
			t.Errorf("pieces of %d bytes: %#x, want %#x", len(b), sum, Part(b))
		}
	}
}

// P1.3: 0, 65535 and the complement, at every number.
func TestAddNeutral(t *testing.T) {
	for n := range 65536 {
		a := uint16(n)
		if Add(a, 0) != a || Add(0, a) != a {
			t.Fatalf("Add(%#x, 0) = %#x, the other way %#x", a, Add(a, 0), Add(0, a))
		}
		want := a
		if a == 0 {
			want = 65535
		}
		if Add(a, 65535) != want || Add(65535, a) != want {
			t.Fatalf("Add(%#x, 65535) = %#x, the other way %#x", a, Add(a, 65535), Add(65535, a))
		}
		if s := Add(a, 65535-a); s != 65535 {
			t.Fatalf("Add(%#x, %#x) = %#x, want 65535", a, 65535-a, s)
		}
	}
}

// P1.3: order and grouping of what is added.
func TestAddOrderAndGrouping(t *testing.T) {
	check := func(a, b, c uint16) {
		t.Helper()
		if Add(a, b) != Add(b, a) {
			t.Errorf("Add(%#x, %#x) hangs on the order", a, b)
		}
		if l, r := Add(Add(a, b), c), Add(a, Add(b, c)); l != r {
			t.Errorf("%#x, %#x, %#x grouped: %#x and %#x", a, b, c, l, r)
		}
	}
	for _, a := range edges {
		for _, b := range edges {
			for _, c := range edges {
				check(a, b, c)
			}
		}
	}
	s := source(6)
	for range 20000 {
		check(s.word(), s.word(), s.word())
	}
}

// P1.3: whole words in another order, and words with their bytes swapped.
func TestPartOfMovedWords(t *testing.T) {
	s := source(7)
	for n := range 60 {
		b := s.text(2 * n)
		words := wordsOf(b)
		for i := len(words) - 1; i > 0; i-- {
			j := s.below(i + 1)
			words[i], words[j] = words[j], words[i]
		}
		if p := Part(bytesOf(words)); p != Part(b) {
			t.Errorf("% x with its words moved: %#x, want %#x", b, p, Part(b))
		}
		for i := range words {
			words[i] = swapped(words[i])
		}
		if p := Part(bytesOf(words)); p != swapped(Part(b)) {
			t.Errorf("% x with its words swapped: %#x, want %#x", b, p, swapped(Part(b)))
		}
	}
}

// P1.4: with its own checksum in an even place that was 0, the whole's Part is 65535.
func TestOfVerifies(t *testing.T) {
	for _, b := range texts() {
		step := 2 + len(b)/20*2
		for i := 0; i+2 <= len(b); i += step {
			clear := put(b, i, 0)
			if p := Part(put(clear, i, Of(clear))); p != 65535 {
				t.Errorf("%d bytes % x with a sum at %d: %#x, want 65535", len(b), shown(b), i, p)
			}
		}
	}
}

// P1.5: the document's examples.
func TestPatchExamples(t *testing.T) {
	if s := Patch(Of([]byte{0x12, 0x34, 0x56, 0x78}), 0x5678, 0); s != 0xedcb || s != Of([]byte{0x12, 0x34, 0, 0}) {
		t.Errorf("Patch of 12 34 56 78 = %#x, want 0xedcb", s)
	}
	if s := Patch(Of([]byte{0, 5}), 5, 0); s != 0 {
		t.Errorf("Patch of 00 05 to 0 = %#x, want 0", s)
	}
	if s := Patch(Of([]byte{0, 0}), 0, 0); s != 0 {
		t.Errorf("Patch of 00 00 to 0 = %#x, want 0", s)
	}
	if s := Patch(Of([]byte{0, 0}), 0, 5); s != 65530 {
		t.Errorf("Patch of 00 00 to 5 = %#x, want 65530", s)
	}
	if s := Patch(Of([]byte{0x12, 0x34}), 0x1234, 0xffff); s != 0 {
		t.Errorf("Patch of 12 34 to ff ff = %#x, want 0", s)
	}
}

// checkPatch holds Patch against Of of the changed bytes; where these are all 0 it is 0, and verifies as a rest by 65535 alone.
func checkPatch(t *testing.T, old []byte, place int, now uint16) {
	t.Helper()
	changed := put(old, place, now)
	want, whole := Of(changed), uint16(65535)
	if allZero(changed) {
		want, whole = 0, 0
	}
	got := Patch(Of(old), wordsOf(old)[place/2], now)
	if got != want {
		t.Fatalf("% x, %#x at %d: %#x, want %#x", shown(old), now, place, got, want)
	}
	if p := Add(Part(changed), got); p != whole {
		t.Fatalf("% x, %#x at %d: with the sum %#x the whole's Part is %#x, want %#x", shown(old), now, place, got, p, whole)
	}
}

// P1.5: Patch is Of of the changed bytes.
func TestPatchIsOf(t *testing.T) {
	s := source(8)
	for _, b := range texts() {
		step := 2 + len(b)/20*2
		for i := 0; i+2 <= len(b); i += step {
			checkPatch(t, b, i, s.word())
			for _, now := range edges {
				checkPatch(t, b, i, now)
				checkPatch(t, put(b, i, now), i, 0)
			}
		}
	}
}

// P1.5: bytes that become all 0, or are so already, and bytes that were.
func TestPatchToAndFromZeros(t *testing.T) {
	for n := 2; n <= 9; n++ {
		zeros := make([]byte, n)
		for i := 0; i+2 <= n; i += 2 {
			for w := range 65536 {
				if got := Patch(Of(put(zeros, i, uint16(w))), uint16(w), 0); got != 0 {
					t.Fatalf("Patch of %d bytes with %#x at %d to zeros = %#x, want 0", n, w, i, got)
				}
				checkPatch(t, zeros, i, uint16(w))
			}
		}
	}
}

// P1.6: neither the bytes that are handed in nor the room behind them are changed.
func TestArgumentsStayAsTheyAre(t *testing.T) {
	s := source(9)
	for n := range 40 {
		room := s.text(n + 16)
		kept := bytes.Clone(room)
		part, of := Part(room[:n]), Of(room[:n])
		if !bytes.Equal(room, kept) {
			t.Fatalf("a call on %d bytes changed them or the room behind", n)
		}
		// What stands behind the bytes counts for nothing.
		for i := n; i < len(room); i++ {
			room[i] ^= 0xa5
		}
		if Part(room[:n]) != part || Of(room[:n]) != of {
			t.Errorf("the room behind %d bytes was read", n)
		}
	}
}

// P1.6: bytes that change behind a call are read anew by the next one.
func TestArgumentsAreNotKept(t *testing.T) {
	b := []byte{1, 2, 3, 4}
	if p := Part(b); p != 0x0406 {
		t.Fatalf("Part = %#x, want 0x0406", p)
	}
	b[0] = 9
	if p := Part(b); p != 0x0c06 {
		t.Errorf("Part behind a change = %#x, want 0x0c06", p)
	}
	if s := Of(b); s != 65535-0x0c06 {
		t.Errorf("Of behind a change = %#x, want %#x", s, 65535-0x0c06)
	}
}
