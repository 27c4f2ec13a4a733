package span

import (
	"slices"
	"testing"

	"mosaic/api"
)

// mark is no span that any answer tells.
var mark = api.Span{From: -7, To: -7}

// roomy is the list with spare room behind it, all of it marked.
func roomy(l []api.Span) []api.Span {
	whole := make([]api.Span, len(l)+8)
	for i := range whole {
		whole[i] = mark
	}
	copy(whole, l)
	return whole[:len(l)]
}

func spareIsMarked(l []api.Span) bool {
	spare := l[len(l):cap(l)]
	return !slices.ContainsFunc(spare, func(s api.Span) bool { return s != mark })
}

func scribble(l []api.Span) {
	l = l[:cap(l)]
	for i := range l {
		l[i] = api.Span{From: 1234, To: 4321}
	}
}

// asks are the calls that tell a list.
func asks() map[string]func([]api.Span) ([]api.Span, api.Errno) {
	return map[string]func([]api.Span) ([]api.Span, api.Errno){
		"Norm":            Norm,
		"Add ahead":       func(l []api.Span) ([]api.Span, api.Errno) { return Add(l, one(0, 1)) },
		"Add between":     func(l []api.Span) ([]api.Span, api.Errno) { return Add(l, one(20, 21)) },
		"Add within":      func(l []api.Span) ([]api.Span, api.Errno) { return Add(l, one(9, 10)) },
		"Add touching":    func(l []api.Span) ([]api.Span, api.Errno) { return Add(l, one(16, 24)) },
		"Add behind":      func(l []api.Span) ([]api.Span, api.Errno) { return Add(l, one(80, 81)) },
		"Cut of nothing":  func(l []api.Span) ([]api.Span, api.Errno) { return Cut(l, one(0, 2)) },
		"Cut of the last": func(l []api.Span) ([]api.Span, api.Errno) { return Cut(l, one(40, 90)) },
		"Cut in one":      func(l []api.Span) ([]api.Span, api.Errno) { return Cut(l, one(9, 10)) },
		"Cut of all":      func(l []api.Span) ([]api.Span, api.Errno) { return Cut(l, one(0, 65535)) },
		"Holes":           func(l []api.Span) ([]api.Span, api.Errno) { return Holes(l, 50) },
		"refused Add":     func(l []api.Span) ([]api.Span, api.Errno) { return Add(l, one(9, 9)) },
		"refused Cut":     func(l []api.Span) ([]api.Span, api.Errno) { return Cut(l, one(9, 9)) },
		"refused Holes":   func(l []api.Span) ([]api.Span, api.Errno) { return Holes(l, -1) },
	}
}

func TestNothingIsShared(t *testing.T) {
	for name, ask := range asks() {
		for _, base := range [][]api.Span{nil, list(8, 16), list(8, 16, 24, 32, 40, 48), list(8, 16, 4, 9), list(8, 16, 16, 17), list(3, 3)} {
			l := roomy(base)
			first, e := ask(l)
			want := slices.Clone(first)
			second, _ := ask(l)
			if !slices.Equal(l, base) || !spareIsMarked(l) {
				t.Errorf("P9.5: %s changed %v to %v", name, base, l[:cap(l)])
			}
			scribble(first)
			if !slices.Equal(l, base) || !spareIsMarked(l) {
				t.Errorf("P9.5: %s: the answer shares memory with %v", name, base)
			}
			if !slices.Equal(second, want) {
				t.Errorf("P9.5: %s: two answers share memory", name)
			}
			scribble(l)
			if !slices.Equal(second, want) {
				t.Errorf("P9.5: %s: the list of before was kept", name)
			}
			third, f := ask(roomy(base))
			if !slices.Equal(third, want) || e != f {
				t.Errorf("P9.5: %s of %v: %v, %d, then %v, %d", name, base, want, e, third, f)
			}
		}
	}
}

func TestAsksThatTellNoList(t *testing.T) {
	base := list(8, 16, 24, 32)
	l := roomy(base)
	Right(l)
	Size(l)
	Has(l, one(9, 30))
	Meets(l, one(16, 30))
	if !slices.Equal(l, base) || !spareIsMarked(l) {
		t.Error("P9.5: a list was changed")
	}
}

func TestNilAndEmpty(t *testing.T) {
	for _, l := range [][]api.Span{nil, {}, roomy(nil)} {
		askAll(t, l)
		if !Right(l) || Size(l) != 0 {
			t.Error("P9.1: the empty list is right and holds nothing")
		}
		for _, to := range []int{-1, 0, 1, 65535, 65536} {
			askHoles(t, l, to)
		}
		for _, s := range list(0, 1, 65534, 65535, 0, 65535, 0, 0, -1, 1) {
			askOne(t, l, s)
		}
	}
}
