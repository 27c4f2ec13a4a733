package mosaic

import (
	"strconv"
	"strings"

	"mosaic/addr"
	"mosaic/api"
	"mosaic/ip4"
	"mosaic/ip6"
	"mosaic/sum"
)

// maxSpelt is how many bytes of data are told digit by digit; of more just their sum is.
const maxSpelt = 64

// sheet is lines that are told.
type sheet struct{ strings.Builder }

func (s *sheet) line(words ...string) { s.WriteString(strings.Join(words, " ") + "\n") }

// Tell is a packet's line.
func Tell(b []byte) string {
	p, e := ip4.Parse(b)
	if e != api.OK {
		p, e = ip6.Parse(b)
	}
	if e != api.OK {
		return "bytes " + strconv.Itoa(len(b))
	}
	l := []string{"v" + strconv.Itoa(p.V), addr.Print(p.Src), addr.Print(p.Dst)}
	l = append(l, "proto", strconv.Itoa(p.Proto), "ttl", strconv.Itoa(p.TTL))
	l = append(l, idWords(p)...)
	if p.Off > 0 {
		l = append(l, "off", strconv.Itoa(p.Off))
	}
	if p.More {
		l = append(l, "more")
	}
	l = append(l, "data", strconv.Itoa(len(p.Data)))
	return strings.Join(l, " ")
}

// idWords are what a packet's version has beside all that both have.
func idWords(p api.Packet) []string {
	id := idWord(p.ID)
	switch {
	case p.V == 4 && p.DF:
		return []string{"id", id, "df"}
	case p.V == 4:
		return []string{"id", id}
	case p.Frag:
		return []string{"frag", id}
	}
	return nil
}

func idWord(id uint32) string { return strconv.FormatUint(uint64(id), 10) }

// do does a command: what it tells.
func (w *World) do(c command) string {
	var s sheet
	a := c.do(w.beneath)
	if a.Code != api.OK {
		s.line("no", strconv.Itoa(int(a.Code)))
	} else {
		w.tell(&s, c, a)
	}
	return s.String()
}

// tell tells of a command that was done.
func (w *World) tell(s *sheet, c command, a api.Answer) {
	switch c := c.(type) {
	case bind:
		s.line("ok", strconv.Itoa(a.N), strconv.Itoa(a.Port))
	case receive:
		tellGot(s, a.Got)
	case estimate, run:
		s.line("ok", strconv.Itoa(a.N))
	case askFlight:
		w.tellFlight(s)
	case askState:
		w.tellState(s, c.node)
	case askClear:
		s.line("ok", yesOrNo(w.beneath.Clear()))
	case askNow:
		s.line("ok", strconv.FormatInt(w.beneath.Now(), 10))
	default:
		s.line("ok")
	}
}

func tellGot(s *sheet, g api.Got) {
	data := spell
	if len(g.Data) > maxSpelt {
		data = sumUp
	}
	s.line("ok", addr.Print(g.Src), strconv.Itoa(g.SPort), addr.Print(g.Dst), strconv.Itoa(g.DPort), data(g.Data))
}

func (w *World) tellFlight(s *sheet) {
	l := w.beneath.Flight()
	s.line("ok", strconv.Itoa(len(l)))
	for _, x := range l {
		s.line(strconv.Itoa(x.Node), Tell(x.Bytes))
	}
}

func (w *World) tellState(s *sheet, host int) {
	t, _ := w.beneath.State(host)
	s.line("ok", strconv.Itoa(len(t.Sockets)))
	for i, socket := range t.Sockets {
		s.line("socket", strconv.Itoa(socket), strconv.Itoa(t.Queues[i]))
	}
	for _, k := range t.Keys {
		s.line("entry", addr.Print(k.Src), addr.Print(k.Dst), strconv.Itoa(k.Proto), idWord(k.ID))
	}
	s.line("bytes", strconv.Itoa(t.Bytes))
	for _, a := range t.Paths {
		s.line("path", addr.Print(a))
	}
}

func yesOrNo(yes bool) string {
	if yes {
		return "yes"
	}
	return "no"
}

// spell tells bytes digit by digit.
func spell(b []byte) string {
	var s strings.Builder
	s.WriteByte(':')
	for _, c := range b {
		s.WriteByte(hexDigits[c>>4])
		s.WriteByte(hexDigits[c&15])
	}
	return s.String()
}

// sumUp tells how many bytes there are, and their sum.
func sumUp(b []byte) string {
	return "*" + strconv.Itoa(len(b)) + " " + strconv.Itoa(int(sum.Part(b)))
}
