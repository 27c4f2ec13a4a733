package trace

import (
	"bytes"
	"slices"
	"testing"

	"mosaic/addr"
	"mosaic/api"
	"mosaic/net"
)

// model is the chapter's words: a world without a ghost, and a ghost that looks at all of the flight ahead of each move and behind it, and at all hosts.
type model struct {
	c       net.Config
	w       *net.World
	numbers []int
	given   int
	sends   []Sent
	bound   map[[2]int]end             // by host and socket
	held    []map[api.Key]map[int]bool // by host
	unclear bool
}

func newModel(t *testing.T, c net.Config) *model {
	t.Helper()
	w, e := net.New(c)
	if e != api.OK {
		t.Fatalf("a world is refused: %d", e)
	}
	t.Cleanup(w.Close)
	m := &model{c: c, w: w, bound: map[[2]int]end{}}
	for range c.Hosts {
		m.held = append(m.held, map[api.Key]map[int]bool{})
	}
	return m
}

func (m *model) nodes() int { return len(m.c.Hosts) + len(m.c.Hops) }

func (m *model) next() int {
	m.given++
	return m.given
}

// do is the answer to a move.
func (m *model) do(v api.Move) api.Answer {
	was := m.w.Flight()
	a := m.w.Do(v)
	is := m.w.Flight()
	if a.Code == api.OK {
		ahead := m.numbers
		m.numbers = m.behind(v, a, was, is)
		m.letGo()
		if v.Kind == api.MvForward {
			m.hold(was[v.K], ahead[v.K])
		}
	}
	m.unclear = m.unclear || m.clash(is, m.held)
	return a
}

// behind are the numbers behind a move, by the flights ahead of it and behind it.
func (m *model) behind(v api.Move, a api.Answer, was, is []net.Way) []int {
	l, more := slices.Clone(m.numbers), len(is)-len(was)
	switch v.Kind {
	case api.MvBind:
		m.bound[[2]int{v.Node, a.N}] = end{v.Addr, a.Port}
	case api.MvSend:
		s := Sent{Number: m.next(), Src: m.source(v), SPort: m.bound[[2]int{v.Node, v.Socket}].port, Dst: v.Addr, DPort: v.Port, Data: bytes.Clone(v.Data)}
		m.sends = append(m.sends, s)
		l = append(l, slices.Repeat([]int{s.Number}, more)...)
	case api.MvForward:
		l = slices.Delete(l, v.K, v.K+1)
		from, byRouter := taken(was[v.K].Bytes), was[v.K].Node >= len(m.c.Hosts)
		for _, x := range is[len(l):] {
			p := taken(x.Bytes)
			if byRouter && keyOf(p) == keyOf(from) {
				l = append(l, m.numbers[v.K])
			} else {
				l = m.message(l, p)
			}
		}
	case api.MvTick:
		for _, x := range is[len(l):] {
			l = m.message(l, taken(x.Bytes))
		}
	case api.MvDrop:
		l = slices.Delete(l, v.K, v.K+1)
	case api.MvTwin:
		l = slices.Insert(l, v.K, slices.Repeat([]int{l[v.K]}, more)...)
	case api.MvSwap:
		l[v.K], l[v.J] = l[v.J], l[v.K]
	case api.MvSpoil:
		l[v.K] = m.next()
	case api.MvInject:
		if more == 1 {
			l = append(l, m.next())
		}
	case api.MvRecut:
		l = slices.Insert(l, v.K, slices.Repeat([]int{l[v.K]}, more)...)
	}
	return l
}

// message is the numbers with that of one more packet of a message.
func (m *model) message(l []int, p api.Packet) []int {
	if p.Off == 0 {
		return append(l, m.next())
	}
	return append(l, l[len(l)-1])
}

// source is the address of a socket that sends.
func (m *model) source(v api.Move) api.Addr {
	a := m.bound[[2]int{v.Node, v.Socket}].addr
	if a != any4 && a != any6 {
		return a
	}
	own := slices.DeleteFunc(slices.Clone(m.c.Hosts[v.Node].Addrs), func(b api.Addr) bool { return b.V != a.V })
	return slices.MinFunc(own, func(a, b api.Addr) int {
		if addr.Less(a, b) {
			return -1
		}
		return 1
	})
}

// letGo forgets what was held of entries that are no more.
func (m *model) letGo() {
	for n, held := range m.held {
		s, _ := m.w.State(n)
		for k := range held {
			if !slices.Contains(s.Keys, k) {
				delete(held, k)
			}
		}
	}
}

// hold notes the number of a fragment that came to a host.
func (m *model) hold(x net.Way, number int) {
	p := taken(x.Bytes)
	if x.Node >= len(m.held) || !isFragment(p) || !slices.Contains(m.c.Hosts[x.Node].Addrs, p.Dst) {
		return
	}
	s, _ := m.w.State(x.Node)
	if !slices.Contains(s.Keys, keyOf(p)) {
		return
	}
	if m.held[x.Node][keyOf(p)] == nil {
		m.held[x.Node][keyOf(p)] = map[int]bool{}
	}
	m.held[x.Node][keyOf(p)][number] = true
}

// clash says whether there are two numbers of one key now, under way or held.
func (m *model) clash(is []net.Way, held []map[api.Key]map[int]bool) bool {
	all := map[api.Key]map[int]bool{}
	note := func(k api.Key, number int) {
		if all[k] == nil {
			all[k] = map[int]bool{}
		}
		all[k][number] = true
	}
	for k, x := range is {
		if p := taken(x.Bytes); isFragment(p) {
			note(keyOf(p), m.numbers[k])
		}
	}
	for _, entries := range held {
		for k, l := range entries {
			for number := range l {
				note(k, number)
			}
		}
	}
	for _, l := range all {
		if len(l) > 1 {
			return true
		}
	}
	return false
}
