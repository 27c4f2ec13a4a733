package ident

import (
	"testing"

	"mosaic/api"
)

// kept is how many batches the source has room for: what it holds on to.
func kept(s *Source) int64 { return int64(cap(s.batches)) }

// fits tells whether what is kept hangs on what is busy: a few times as much, and a few more.
func fits(t *testing.T, s *Source, now int64) {
	t.Helper()
	b, e := s.Busy(now)
	if e != api.OK || kept(s) > 6*b+16 {
		t.Fatalf("what a source keeps: room for %d batches, where %d numbers are busy (%d)", kept(s), b, e)
	}
}

func TestKeptHangsOnTheBusy(t *testing.T) {
	r := source(8)
	for range 50 {
		s := made(t, 1+r.below(500), r.below(300))
		now := int64(0)
		for range 3000 {
			now += r.below(1 + r.below(4)*r.below(100))
			if _, e := s.Next(now); e == api.OK {
				fits(t, s, now)
			}
		}
	}
}

// Of very many at many ticks nothing is left, when their life is over and another is given.
func TestKeptIsLetGo(t *testing.T) {
	s := made(t, 1<<32, 200000)
	for now := range int64(200000) {
		if _, e := s.Next(now); e != api.OK {
			t.Fatal(e)
		}
	}
	if b, _ := s.Busy(199999); b != 200000 {
		t.Fatalf("Busy = %d", b)
	}
	hold(t, "P12.1", s, next(400000, 200000), busy(400000, 1))
	fits(t, s, 400000)
}

// Many at one tick take no room but that of their tick.
func TestKeptOfOneTick(t *testing.T) {
	s := made(t, 1<<32, 5)
	for k := range int64(300000) {
		if n, e := s.Next(7); int64(n) != k || e != api.OK {
			t.Fatalf("P12.3: answer %d is %d, %d", k, n, e)
		}
	}
	if kept(s) > 16 {
		t.Errorf("room for %d batches, of one tick", kept(s))
	}
	hold(t, "P12.1", s, busy(7, 300000), busy(11, 300000), busy(12, 0))
}

// A source that steadily has many busy numbers is not slow: each call costs little, however many those are.
func TestSteady(t *testing.T) {
	s := made(t, 1<<32, 100000)
	for now := range int64(1000000) {
		if n, e := s.Next(now); int64(n) != now || e != api.OK {
			t.Fatalf("P12.3: answer %d is %d, %d", now, n, e)
		}
	}
	hold(t, "P12.1", s, busy(999999, 100000), busy(1000000, 99999), busy(1099998, 1), busy(1099999, 0))
	fits(t, s, 999999)
}

func TestLifeOfNoneKeepsNothing(t *testing.T) {
	s := made(t, 65536, 0)
	for k := range int64(200000) {
		if n, e := s.Next(k / 3); int64(n) != k%65536 || e != api.OK {
			t.Fatalf("P12.3: answer %d is %d, %d", k, n, e)
		}
	}
	fits(t, s, 200000)
}
