package plateau

import (
	"math"
	"slices"
	"testing"
)

// told are the plateaus as the chapter tells them, written out once more.
func told() []int {
	return []int{65535, 32000, 17914, 8166, 4352, 2002, 1492, 1280, 1006, 508, 296, 68}
}

// greatestLess and leastGreater ask every plateau, in no order, as the chapter's words do.
func greatestLess(n int) int {
	best, found := 68, false
	for _, p := range told() {
		if p < n && (!found || p > best) {
			best, found = p, true
		}
	}
	return best
}

func leastGreater(n int) int {
	best, found := 65535, false
	for _, p := range told() {
		if p > n && (!found || p < best) {
			best, found = p, true
		}
	}
	return best
}

// numbers rise: all around the plateaus one by one, and far from them the edges of the integer kinds.
func numbers() []int {
	l := []int{math.MinInt, math.MinInt + 1, math.MinInt32 - 1, math.MinInt32, -65536, -65535, -1500, -296}
	for n := -100; n <= 66000; n++ {
		l = append(l, n)
	}
	return append(l, 1<<17, math.MaxInt32, math.MaxInt32+1, math.MaxUint32, 1<<40, math.MaxInt-1, math.MaxInt)
}

func TestExamples(t *testing.T) {
	for _, c := range []struct{ n, want int }{
		{65535, 32000}, {65536, 65535}, {1500, 1492}, {1492, 1280}, {69, 68}, {68, 68}, {0, 68}, {-5, 68},
	} {
		if got := Below(c.n); got != c.want {
			t.Errorf("P16.1: Below(%d) = %d, want %d", c.n, got, c.want)
		}
	}
	for _, c := range []struct{ n, want int }{
		{68, 296}, {67, 68}, {0, 68}, {-5, 68}, {1492, 2002}, {1500, 2002}, {65534, 65535}, {65535, 65535}, {1 << 40, 65535},
	} {
		if got := Above(c.n); got != c.want {
			t.Errorf("P16.1: Above(%d) = %d, want %d", c.n, got, c.want)
		}
	}
	n := 1500
	for _, want := range []int{1492, 1280, 1006, 508, 296, 68, 68} {
		got := Below(n)
		if got != want {
			t.Errorf("P16.1: from 1500 down, Below(%d) = %d, want %d", n, got, want)
		}
		n = want
	}
}

func TestEdges(t *testing.T) {
	for _, c := range []struct{ n, below, above int }{
		{math.MinInt, 68, 68}, {math.MaxInt, 65535, 65535},
		{math.MinInt32, 68, 68}, {math.MaxInt32, 65535, 65535}, {math.MaxUint32, 65535, 65535},
		{1<<32 + 1500, 65535, 65535}, {-1<<32 + 1500, 68, 68}, // the low bits alone would be 1500
		{1<<16 + 1500, 65535, 65535}, {-1<<16 + 1500, 68, 68},
		{67, 68, 68}, {68, 68, 296}, {69, 68, 296},
		{65534, 32000, 65535}, {65535, 32000, 65535}, {65536, 65535, 65535},
	} {
		if got := Below(c.n); got != c.below {
			t.Errorf("P16.1: Below(%d) = %d, want %d", c.n, got, c.below)
		}
		if got := Above(c.n); got != c.above {
			t.Errorf("P16.1: Above(%d) = %d, want %d", c.n, got, c.above)
		}
	}
}

func TestEveryNumber(t *testing.T) {
	for _, n := range numbers() {
		if got, want := Below(n), greatestLess(n); got != want {
			t.Fatalf("P16.1: Below(%d) = %d, want %d", n, got, want)
		}
		if got, want := Above(n), leastGreater(n); got != want {
			t.Fatalf("P16.1: Above(%d) = %d, want %d", n, got, want)
		}
	}
}

func TestAllAreThePlateausFalling(t *testing.T) {
	if got := All(); !slices.Equal(got, told()) {
		t.Errorf("P16.1: All() = %v, want %v", got, told())
	}
}

// between: whether p lies strictly between a and b, whichever of them is the greater.
func between(p, a, b int) bool {
	return min(a, b) < p && p < max(a, b)
}

func TestNoPlateauLiesBetween(t *testing.T) {
	for _, n := range numbers() {
		for _, p := range told() {
			if between(p, n, Below(n)) {
				t.Fatalf("P16.2: %d lies between %d and Below of it, %d", p, n, Below(n))
			}
			if between(p, n, Above(n)) {
				t.Fatalf("P16.2: %d lies between %d and Above of it, %d", p, n, Above(n))
			}
		}
	}
}

func TestStepsNeverFallAsNumbersRise(t *testing.T) {
	l := numbers()
	for i := 1; i < len(l); i++ {
		a, b := l[i-1], l[i]
		if a >= b {
			t.Fatalf("the numbers of this test do not rise: %d, %d", a, b)
		}
		if Below(b) < Below(a) {
			t.Fatalf("P16.2: Below(%d) = %d, but Below(%d) = %d", a, Below(a), b, Below(b))
		}
		if Above(b) < Above(a) {
			t.Fatalf("P16.2: Above(%d) = %d, but Above(%d) = %d", a, Above(a), b, Above(b))
		}
	}
}

func TestStepsUndoEachOther(t *testing.T) {
	for _, p := range told() {
		wantUp, wantDown := p, p
		if p == 68 {
			wantUp = 296 // there is none below it: Below stays
		}
		if p == 65535 {
			wantDown = 32000
		}
		if got := Above(Below(p)); got != wantUp {
			t.Errorf("P16.2: Above(Below(%d)) = %d, want %d", p, got, wantUp)
		}
		if got := Below(Above(p)); got != wantDown {
			t.Errorf("P16.2: Below(Above(%d)) = %d, want %d", p, got, wantDown)
		}
	}
}

// stepsTo counts the steps from n until they come to end; -1: they do not within 12, or do not stay there.
func stepsTo(end, n int, step func(int) int) int {
	count := 0
	for n != end {
		if count == 12 {
			return -1
		}
		n = step(n)
		count++
	}
	for range 3 {
		n = step(n)
		if n != end {
			return -1
		}
	}
	return count
}

func TestTwelveStepsLeadToTheEnds(t *testing.T) {
	mostDown, mostUp := 0, 0
	for _, n := range numbers() {
		down, up := stepsTo(68, n, Below), stepsTo(65535, n, Above)
		if down < 0 {
			t.Fatalf("P16.3: from %d, 12 steps of Below do not lead to 68 to stay", n)
		}
		if up < 0 {
			t.Fatalf("P16.3: from %d, 12 steps of Above do not lead to 65535 to stay", n)
		}
		mostDown, mostUp = max(mostDown, down), max(mostUp, up)
	}
	// From outside the list the way leads over every plateau.
	if mostDown != 12 || mostUp != 12 {
		t.Errorf("P16.3: the longest ways are of %d steps down and %d up, want 12 and 12", mostDown, mostUp)
	}
}

func TestTheWayGoesOverEveryPlateau(t *testing.T) {
	down, up := []int{}, []int{}
	for n := Below(math.MaxInt); len(down) < 12; n = Below(n) {
		down = append(down, n)
	}
	for n := Above(math.MinInt); len(up) < 12; n = Above(n) {
		up = append(up, n)
	}
	slices.Reverse(up)
	if !slices.Equal(down, told()) {
		t.Errorf("P16.3: the way down is %v, want %v", down, told())
	}
	if !slices.Equal(up, told()) {
		t.Errorf("P16.3: the way up, from its end, is %v, want %v", up, told())
	}
}

// scribble writes over a list and over the room behind it.
func scribble(l []int) {
	l = l[:cap(l)]
	for i := range l {
		l[i] = 7
	}
}

func TestAllIsTheCallersOwn(t *testing.T) {
	first, second := All(), All()
	scribble(first)
	if !slices.Equal(second, told()) {
		t.Errorf("P16.4: what was written into one answer of All shows in another: %v", second)
	}
	if got := All(); !slices.Equal(got, told()) {
		t.Errorf("P16.4: what was written into an answer of All shows in the next: %v", got)
	}
	for _, n := range []int{math.MinInt, 0, 68, 69, 296, 1492, 1500, 65535, 65536, math.MaxInt} {
		if Below(n) != greatestLess(n) || Above(n) != leastGreater(n) {
			t.Errorf("P16.4: what was written into an answer of All shows in Below(%d) = %d or Above = %d", n, Below(n), Above(n))
		}
	}
}

func TestAnswersGrowApart(t *testing.T) {
	first, second := All(), All()
	first = append(first, 1)
	second = append(second, 2)
	if first[12] != 1 || second[12] != 2 || len(All()) != 12 {
		t.Errorf("P16.4: answers of All share the room behind them: %v, %v, %v", first, second, All())
	}
}
