package span

import (
	"math"
	"slices"
	"testing"

	"mosaic/api"
)

// source is a plain generator, so that every run sees the same inputs.
type source uint64

func (s *source) next() uint64 {
	*s ^= *s << 13
	*s ^= *s >> 7
	*s ^= *s << 17
	return uint64(*s)
}

func (s *source) below(n int) int { return int((s.next() >> 11) % uint64(n)) }

// list is the spans of pairs of numbers.
func list(n ...int) []api.Span {
	var out []api.Span
	for i := 0; i+1 < len(n); i += 2 {
		out = append(out, api.Span{From: n[i], To: n[i+1]})
	}
	return out
}

func one(from, to int) api.Span { return api.Span{From: from, To: to} }

// set tells of each number from 0 to 65534 whether it is in.
type set [65535]bool

// lay puts in, or takes out, number by number.
func (m *set) lay(s api.Span, in bool) {
	for i := s.From; i < s.To; i++ {
		m[i] = in
	}
}

// held are the numbers of spans, in whatever order they stand.
func held(l []api.Span) *set {
	m := new(set)
	for _, s := range l {
		m.lay(s, true)
	}
	return m
}

// runs is the one right list that holds the numbers of the set.
func (m *set) runs() []api.Span {
	var out []api.Span
	for i := range m {
		if !m[i] {
			continue
		}
		if i == 0 || !m[i-1] {
			out = append(out, one(i, i))
		}
		out[len(out)-1].To = i + 1
	}
	return out
}

func (m *set) count() int {
	n := 0
	for _, in := range m {
		if in {
			n++
		}
	}
	return n
}

// within counts the numbers of s that are in the set.
func (m *set) within(s api.Span) int {
	n := 0
	for i := s.From; i < s.To; i++ {
		if m[i] {
			n++
		}
	}
	return n
}

func modelSpan(s api.Span) bool {
	return s.From >= 0 && s.From <= 65534 && s.To >= 1 && s.To <= 65535 && s.From < s.To
}

func modelSpans(l []api.Span) bool {
	return !slices.ContainsFunc(l, func(s api.Span) bool { return !modelSpan(s) })
}

// modelRight is the document's own words: each a span, each From above the To of the one ahead of it.
func modelRight(l []api.Span) bool {
	for i := 1; i < len(l); i++ {
		if l[i].From <= l[i-1].To {
			return false
		}
	}
	return modelSpans(l)
}

// same holds an answer against the set that is asked, and says at which number it is not it.
func same(t *testing.T, what string, got []api.Span, e api.Errno, want *set) {
	t.Helper()
	if e != api.OK {
		t.Fatalf("%s: error %d", what, e)
	}
	if !modelRight(got) || !Right(got) {
		t.Fatalf("P9.2: %s: %v is not right", what, got)
	}
	has := held(got)
	for i := range has {
		if has[i] != want[i] {
			t.Fatalf("%s: %v: number %d in: %v", what, got, i, has[i])
		}
	}
	if !slices.Equal(got, want.runs()) {
		t.Fatalf("%s: %v, not the one right list", what, got)
	}
}

func refused(t *testing.T, what string, got []api.Span, e api.Errno) {
	t.Helper()
	if e != api.ErrArg || len(got) != 0 {
		t.Fatalf("P9.1: %s: %v, %d, want ErrArg alone", what, got, e)
	}
}

// askOne asks all that takes a list and a span.
func askOne(t *testing.T, l []api.Span, s api.Span) {
	t.Helper()
	kept := slices.Clone(l)
	added, e := Add(l, s)
	cut, f := Cut(l, s)
	has, meets := Has(l, s), Meets(l, s)
	if !slices.Equal(l, kept) {
		t.Fatalf("P9.5: %v was changed to %v", kept, l)
	}
	if !modelRight(l) || !modelSpan(s) {
		refused(t, "Add", added, e)
		refused(t, "Cut", cut, f)
		if has || meets {
			t.Fatalf("P9.1: %v, %v: Has %v, Meets %v of what is not right", l, s, has, meets)
		}
		return
	}
	m := held(l)
	n := m.within(s)
	if has != (n == s.To-s.From) || meets != (n > 0) {
		t.Fatalf("P9.2: %v, %v: Has %v, Meets %v, but %d numbers are in", l, s, has, meets, n)
	}
	m.lay(s, true)
	same(t, "P9.2: Add", added, e, m)
	m = held(l)
	m.lay(s, false)
	same(t, "P9.2: Cut", cut, f, m)
	laws(t, l, s, cut)
}

// laws are those by which the document ties Has and Meets to Cut.
func laws(t *testing.T, l []api.Span, s api.Span, cut []api.Span) {
	t.Helper()
	left := []api.Span{s}
	if len(l) <= 2001 { // a cut for each span of a longer list takes too long
		for _, x := range l {
			left, _ = Cut(left, x)
		}
		if Has(l, s) != (len(left) == 0) {
			t.Fatalf("P9.2: %v, %v: Has, but %v is left", l, s, left)
		}
	}
	if Meets(l, s) == slices.Equal(l, cut) {
		t.Fatalf("P9.2: %v, %v: Meets, but Cut is %v", l, s, cut)
	}
}

// askAll asks all that takes a list alone.
func askAll(t *testing.T, l []api.Span) {
	t.Helper()
	kept := slices.Clone(l)
	right, size := Right(l), Size(l)
	normed, e := Norm(l)
	if !slices.Equal(l, kept) {
		t.Fatalf("P9.5: %v was changed to %v", kept, l)
	}
	if right != modelRight(l) {
		t.Fatalf("P9.1: Right(%v) = %v", l, right)
	}
	if !right && size != 0 || right && size != held(l).count() {
		t.Fatalf("P9.1: Size(%v) = %d", l, size)
	}
	if !modelSpans(l) {
		refused(t, "Norm", normed, e)
		return
	}
	same(t, "P9.2: Norm", normed, e, held(l))
	if right && !slices.Equal(normed, l) {
		t.Fatalf("P9.3: Norm(%v) = %v", l, normed)
	}
}

// askHoles asks for the holes of a list, and theirs.
func askHoles(t *testing.T, l []api.Span, to int) {
	t.Helper()
	kept := slices.Clone(l)
	holes, e := Holes(l, to)
	if !slices.Equal(l, kept) {
		t.Fatalf("P9.5: %v was changed to %v", kept, l)
	}
	if !modelRight(l) || to < 0 || to > 65535 {
		refused(t, "Holes", holes, e)
		return
	}
	m := held(l)
	missing, here := new(set), new(set)
	for i := range to {
		missing[i], here[i] = !m[i], m[i]
	}
	same(t, "P9.4: Holes", holes, e, missing)
	back, e := Holes(holes, to)
	same(t, "P9.4: Holes of the holes", back, e, here)
	if Size(holes) != to-here.count() {
		t.Fatalf("P9.4: Size(Holes(%v, %d)) = %d", l, to, Size(holes))
	}
}

// answer is what was told, and what is asked of it.
type answer struct {
	got  []api.Span
	e    api.Errno
	want []api.Span
	err  api.Errno
}

func told(got []api.Span, e api.Errno) answer { return answer{got: got, e: e} }

func (a answer) is(want ...int) answer {
	a.want = list(want...)
	return a
}

func (a answer) wrong() answer {
	a.err = api.ErrArg
	return a
}

func TestExamples(t *testing.T) {
	two := list(0, 8, 16, 24)
	for i, c := range []answer{
		told(Norm(list(8, 16, 0, 8, 32, 40, 36, 38))).is(0, 16, 32, 40),
		told(Norm(list(5, 5))).wrong(),
		told(Norm(list(-1, 3))).wrong(),
		told(Norm(list(0, 65536))).wrong(),
		told(Norm(nil)).is(),
		told(Add(two, one(8, 16))).is(0, 24),
		told(Add(two, one(30, 31))).is(0, 8, 16, 24, 30, 31),
		told(Add(two, one(4, 20))).is(0, 24),
		told(Add(list(0, 8, 8, 16), one(20, 21))).wrong(),
		told(Cut(list(0, 24), one(8, 16))).is(0, 8, 16, 24),
		told(Cut(list(0, 24), one(0, 65535))).is(),
		told(Cut(list(0, 24), one(24, 30))).is(0, 24),
		told(Holes(list(8, 16), 24)).is(0, 8, 16, 24),
		told(Holes(nil, 0)).is(),
		told(Holes(list(0, 24), 8)).is(),
		told(Holes(nil, 65536)).wrong(),
		told(Holes(nil, -1)).wrong(),
	} {
		if !slices.Equal(c.got, c.want) || c.e != c.err {
			t.Errorf("P9.1: example %d: %v, %d, want %v, %d", i, c.got, c.e, c.want, c.err)
		}
	}
	if !Has(list(0, 16), one(4, 16)) || Has(list(0, 8, 9, 16), one(4, 12)) {
		t.Error("P9.1: Has of the examples")
	}
	if Meets(list(0, 8), one(8, 9)) || !Meets(list(0, 8), one(7, 9)) {
		t.Error("P9.1: Meets of the examples")
	}
	if Size(two) != 16 || Size(list(8, 0)) != 0 {
		t.Error("P9.1: Size of the examples")
	}
}

// pairs are all spans, and what is none, of some numbers.
func pairs(points ...int) []api.Span {
	var out []api.Span
	for _, from := range points {
		for _, to := range points {
			out = append(out, one(from, to))
		}
	}
	return out
}

func TestEveryElementAtTheEdges(t *testing.T) {
	all := pairs(math.MinInt, -65535, -1, 0, 1, 8, 65534, 65535, 65536, math.MaxInt)
	spans := 0
	for _, a := range all {
		askAll(t, []api.Span{a})
		askHoles(t, []api.Span{a}, 9)
		askOne(t, nil, a)
		askOne(t, list(2, 5), a)
		askOne(t, []api.Span{a}, one(0, 9))
		if Right([]api.Span{a}) {
			spans++
		}
	}
	if spans != 10 {
		t.Errorf("P9.1: %d of the pairs of 0, 1, 8, 65534, 65535 are spans, want 10", spans)
	}
}

func TestFaultsBesideSpans(t *testing.T) {
	wrong := list(-1, 3, -1, 0, 5, 5, 6, 5, 65535, 65536, 65535, 65535, 0, 65536, 65536, 65537, math.MinInt, math.MaxInt, math.MaxInt, math.MinInt, 0, math.MaxInt, math.MinInt, 5, 0, 0)
	good := list(8, 16, 20, 30, 40, 50)
	for _, w := range wrong {
		for at := range 4 {
			l := slices.Insert(slices.Clone(good), at, w)
			askAll(t, l)
			askHoles(t, l, 60)
			for _, s := range list(0, 1, 9, 10, 8, 16, 45, 46, 0, 65535) {
				askOne(t, l, s)
			}
		}
		askOne(t, good, w)
		askOne(t, nil, w)
	}
}

func TestListsOfTwoAndThree(t *testing.T) {
	var spans []api.Span
	for _, s := range pairs(0, 1, 8, 9, 65534, 65535) {
		if modelSpan(s) {
			spans = append(spans, s)
		}
	}
	lists := [][]api.Span{nil, {}}
	for _, a := range spans {
		lists = append(lists, []api.Span{a})
		for _, b := range spans {
			lists = append(lists, []api.Span{a, b})
			for _, c := range spans {
				l := []api.Span{a, b, c}
				if Right(l) != modelRight(l) {
					t.Fatalf("P9.1: Right(%v) = %v", l, Right(l))
				}
				got, e := Norm(l)
				want, f := Norm([]api.Span{c, a, a, b, c, c})
				if e != api.OK || f != api.OK || !slices.Equal(got, want) {
					t.Fatalf("P9.3: Norm(%v) = %v, in another order, some twice, %v", l, got, want)
				}
				if Right(l) {
					lists = append(lists, l)
				}
			}
		}
	}
	for _, l := range lists {
		askAll(t, l)
		for _, to := range []int{math.MinInt, -1, 0, 1, 2, 7, 8, 9, 10, 65533, 65534, 65535, 65536, math.MaxInt} {
			askHoles(t, l, to)
		}
		for _, s := range spans {
			askOne(t, l, s)
		}
	}
}

// bits is the right list of the numbers from base on whose bit is set.
func bits(word, base int) []api.Span {
	var out []api.Span
	for i := 0; word>>i != 0; i++ {
		if word>>i&1 == 0 {
			continue
		}
		if last := len(out) - 1; last >= 0 && out[last].To == base+i {
			out[last].To++
			continue
		}
		out = append(out, one(base+i, base+i+1))
	}
	return out
}

// TestEverySetOfEight holds all sets of eight neighbouring numbers against all spans there: ahead, behind, between, over several, touching at either side.
func TestEverySetOfEight(t *testing.T) {
	for _, base := range []int{0, 1, 32767, 65526, 65527} {
		for word := range 256 {
			l := bits(word, base)
			if !Right(l) {
				t.Fatalf("P9.1: %v is right", l)
			}
			for from := 0; from < 8; from++ {
				for to := from + 1; to <= 8; to++ {
					small(t, l, word, base, from, to)
				}
			}
		}
	}
}

// small holds the answers for a word of numbers and a span against the words that are asked.
func small(t *testing.T, l []api.Span, word, base, from, to int) {
	t.Helper()
	s, mask := one(base+from, base+to), 1<<to-1<<from
	if got, e := Add(l, s); e != api.OK || !slices.Equal(got, bits(word|mask, base)) {
		t.Fatalf("P9.2: Add(%v, %v) = %v, %d", l, s, got, e)
	}
	if got, e := Cut(l, s); e != api.OK || !slices.Equal(got, bits(word&^mask, base)) {
		t.Fatalf("P9.2: Cut(%v, %v) = %v, %d", l, s, got, e)
	}
	if Has(l, s) != (word&mask == mask) || Meets(l, s) != (word&mask != 0) {
		t.Fatalf("P9.2: %v, %v: Has %v, Meets %v", l, s, Has(l, s), Meets(l, s))
	}
	if base > 0 {
		return
	}
	if got, e := Holes(l, to); e != api.OK || !slices.Equal(got, bits(^word&(1<<to-1), 0)) {
		t.Fatalf("P9.4: Holes(%v, %d) = %v, %d", l, to, got, e)
	}
}

// TestEveryListOfSmallSpans takes the lists as they come: touching, overlapping, falling, twice, none at all.
func TestEveryListOfSmallSpans(t *testing.T) {
	all := pairs(-1, 0, 1, 2, 3, 4)
	for _, a := range all {
		for _, b := range all {
			for _, c := range all {
				l := []api.Span{a, b, c}
				if Right(l) != modelRight(l) {
					t.Fatalf("P9.1: Right(%v) = %v", l, Right(l))
				}
				got, e := Norm(l)
				if !modelSpans(l) {
					refused(t, "Norm", got, e)
					continue
				}
				word := 0
				for _, s := range l {
					word |= 1<<s.To - 1<<s.From
				}
				if e != api.OK || !slices.Equal(got, bits(word, 0)) {
					t.Fatalf("P9.2: Norm(%v) = %v, %d", l, got, e)
				}
			}
		}
	}
}

// right is a right list, of few long spans or of many short ones.
func (s *source) right() []api.Span {
	var out []api.Span
	step := []int{3, 40, 900, 20000}[s.below(4)]
	for at := s.below(2) * s.below(step); ; {
		to := at + 1 + s.below(step)
		if at > 65534 || len(out) > 2000 {
			return out
		}
		if s.below(20) == 0 {
			to = 65535
		}
		out = append(out, one(at, min(to, 65535)))
		at = to + 1 + s.below(step)
	}
}

// near is a span, often with its ends at those of the list or beside them.
func (s *source) near(l []api.Span) api.Span {
	point := func() int {
		if len(l) == 0 || s.below(4) == 0 {
			return s.below(65536)
		}
		x := l[s.below(len(l))]
		return []int{x.From, x.To}[s.below(2)] + s.below(3) - 1
	}
	a, b := point(), point()
	a, b = max(0, min(a, b, 65534)), min(65535, max(a, b))
	return one(a, max(a+1, b))
}

func TestRandomLists(t *testing.T) {
	g := source(9)
	for range 300 {
		l := g.right()
		askAll(t, l)
		askHoles(t, l, g.near(l).To)
		askHoles(t, l, g.near(l).From)
		for range 3 {
			askOne(t, l, g.near(l))
		}
		for range 2 {
			x := slices.Clone(l)
			for range 1 + g.below(4) {
				x = slices.Insert(x, g.below(len(x)+1), g.near(l))
			}
			askAll(t, x)
			askHoles(t, x, 65535)
			askOne(t, x, g.near(l))
		}
	}
}

func TestNormOfEveryOrder(t *testing.T) {
	g := source(93)
	for range 200 {
		var l []api.Span
		for range 1 + g.below(200) {
			l = append(l, g.near(l))
		}
		want, e := Norm(l)
		same(t, "P9.2: Norm", want, e, held(l))
		for range 3 {
			x := slices.Concat(l, l[:g.below(len(l)+1)])
			for i := range x {
				j := g.below(i + 1)
				x[i], x[j] = x[j], x[i]
			}
			if got, e := Norm(x); e != api.OK || !slices.Equal(got, want) {
				t.Fatalf("P9.3: Norm of another order, some twice: %v, want %v", got, want)
			}
		}
		if again, e := Norm(want); e != api.OK || !slices.Equal(again, want) {
			t.Fatalf("P9.3: Norm of a right list: %v, want %v", again, want)
		}
	}
}

// TestGrownAndShrunk goes on with what was answered, beside a set that is kept number by number.
func TestGrownAndShrunk(t *testing.T) {
	g := source(94)
	var l []api.Span
	m := new(set)
	for range 1500 {
		s := g.near(l)
		if s.To-s.From > 3000 {
			s.To = s.From + 1 + g.below(3000)
		}
		in := g.below(2) == 0
		var e api.Errno
		if in {
			l, e = Add(l, s)
		} else {
			l, e = Cut(l, s)
		}
		m.lay(s, in)
		same(t, "P9.2: many steps", l, e, m)
		if Size(l) != m.count() {
			t.Fatalf("P9.1: Size %d, want %d", Size(l), m.count())
		}
	}
}

// TestFullList has as many spans as a right list may.
func TestFullList(t *testing.T) {
	var l []api.Span
	for i := 0; i < 65535; i += 2 {
		l = append(l, one(i, i+1))
	}
	askAll(t, l)
	for _, to := range []int{0, 1, 2, 65534, 65535} {
		askHoles(t, l, to)
	}
	for _, s := range list(0, 1, 1, 2, 0, 65535, 65534, 65535, 65533, 65534, 30000, 40001, 30001, 40000) {
		askOne(t, l, s)
	}
	falling := slices.Clone(l)
	slices.Reverse(falling)
	many := slices.Concat(falling, l, falling, list(1, 2))
	want := held(l)
	want[1] = true
	got, e := Norm(many)
	same(t, "P9.2: Norm", got, e, want)
}
