package ident

import (
	"testing"

	"mosaic/api"
)

// source is a plain generator, so that every run sees the same inputs.
type source uint64

func (s *source) next() uint64 {
	*s ^= *s << 13
	*s ^= *s >> 7
	*s ^= *s << 17
	return uint64(*s)
}

func (s *source) below(n int64) int64 { return int64((s.next() >> 11) % uint64(n)) }

// model is the chapter's words: of each number the tick at which it was given last.
type model struct {
	space, life int64
	turn        int64
	last        int64
	at          map[int64]int64
}

func newModel(space, life int64) *model {
	return &model{space: space, life: life, at: map[int64]int64{}}
}

func (m *model) refuses(now int64) bool {
	return now < 0 || now > 1<<40 || now < m.last
}

func (m *model) isBusy(number, now int64) bool {
	at, given := m.at[number]
	return given && now-at < m.life
}

func (m *model) Next(now int64) (uint32, api.Errno) {
	if m.refuses(now) {
		return 0, api.ErrArg
	}
	n := m.turn
	if m.isBusy(n, now) {
		return 0, api.ErrBusy
	}
	m.at[n] = now
	m.last = now
	m.turn++
	if m.turn == m.space {
		m.turn = 0
	}
	return uint32(n), api.OK
}

func (m *model) Busy(now int64) (int64, api.Errno) {
	if m.refuses(now) {
		return 0, api.ErrArg
	}
	busy := int64(0)
	for n := range m.at {
		if m.isBusy(n, now) {
			busy++
		}
	}
	return busy, api.OK
}

func made(t *testing.T, space, life int64) *Source {
	t.Helper()
	s, e := New(space, life)
	if e != api.OK || s == nil {
		t.Fatalf("P12.1: New(%d, %d) = %v, %d", space, life, s, e)
	}
	return s
}

// ask is a now that may stand at any place: mostly a little behind last, at times at an edge or refused.
func (s *source) ask(last, life int64) int64 {
	switch s.below(12) {
	case 0:
		return last - 1 - s.below(3)
	case 1:
		return last + life
	case 2:
		return last + life - 1
	case 3:
		return last + life + s.below(10)
	case 4:
		return []int64{-1, 1<<40 + 1, -1 << 63, 1<<63 - 1}[s.below(4)]
	case 5, 6, 7:
		return last
	}
	return last + s.below(1+life/3)
}

// TestModel holds every answer of long mixed runs against the model's.
func TestModel(t *testing.T) {
	r := source(12)
	for run := range 3000 {
		space, life := 1+r.below(1+r.below(40)), r.below(1+r.below(60))
		s, m := made(t, space, life), newModel(space, life)
		if run%10 == 0 { // the last ticks of all
			at := int64(1<<40 - 30)
			s.Next(at)
			m.Next(at)
		}
		for range 150 {
			now := r.ask(m.last, life)
			if r.below(3) == 0 {
				got, e := s.Busy(now)
				if want, f := m.Busy(now); got != want || e != f {
					t.Fatalf("P12.1: space %d, life %d, last %d: Busy(%d) = %d, %d; want %d, %d", space, life, m.last, now, got, e, want, f)
				}
				continue
			}
			got, e := s.Next(now)
			if want, f := m.Next(now); got != want || e != f {
				t.Fatalf("P12.1: space %d, life %d, last %d: Next(%d) = %d, %d; want %d, %d", space, life, m.last, now, got, e, want, f)
			}
		}
	}
}
