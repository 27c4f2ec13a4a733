package mosaic

import (
	"bytes"
	"encoding/hex"
	"fmt"
	"regexp"
	"slices"
	"strconv"
	"strings"
	"testing"

	"mosaic/addr"
	"mosaic/api"
	"mosaic/ip4"
	"mosaic/ip6"
	"mosaic/net"
	"mosaic/trace"
)

// shapes are the chapter's forms: N a number, A an address, B bytes in both forms, H in the first alone; a blank is one or more of the two; what stands in ? and its end may be left out.
var shapes = map[string]string{
	"bind": "N A N", "shut": "N N", "send": "N N A N ?df; ?nosum; ?opts=H; B", "recv": "N N", "mtu": "N A", "forward": "N", "drop": "N", "twin": "N", "swap": "N N", "spoil": "N N N", "inject": "N B", "recut": "N N", "tick": "", "run": "N", "flight": "", "state": "N", "clear": "", "now": "",
}

var textShapes = map[string]string{
	"host": "", "hop": "", "addr": "A", "route": "A N N", "quota": "N N N N", "paths": "N N", "window": "N", "queue": "N N", "sockets": "N", "life": "N", "link": "N N N N N",
}

// patternOf is a shape as a regular expression.
func patternOf(word, shape string) *regexp.Regexp {
	p := word
	if shape != "" {
		p += " " + shape
	}
	p = regexp.MustCompile(`\?([^;]*); `).ReplaceAllString(p, "($1 )?")
	for _, x := range [][2]string{{" ", `[ \t]+`}, {"H", "(:(?:[0-9a-f][0-9a-f])*)"}, {"N", "([0-9]{1,10})"}, {"A", `([^ \t]+)`}, {"B", `(:(?:[0-9a-f][0-9a-f])*|\*[0-9]{1,10})`}} {
		p = strings.ReplaceAll(p, x[0], x[1])
	}
	return regexp.MustCompile(`^[ \t]*` + p + `[ \t]*$`)
}

func patternsOf(shapes map[string]string) map[string]*regexp.Regexp {
	all := map[string]*regexp.Regexp{}
	for word, shape := range shapes {
		all[word] = patternOf(word, shape)
	}
	return all
}

var linePatterns, textPatterns = patternsOf(shapes), patternsOf(textShapes)

// taken is a line as its shape takes it apart: what it says; no word and true: it says nothing; false: it is none.
func taken(line string, patterns map[string]*regexp.Regexp) (string, []string, bool) {
	if len(line) > 131200 || strings.Contains(line, "\n") {
		return "", nil, false
	}
	if i := strings.Index(line, "#"); i >= 0 {
		line = line[:i]
	}
	if strings.Trim(line, " \t") == "" {
		return "", nil, true
	}
	for word, p := range patterns {
		if m := p.FindStringSubmatch(line); m != nil {
			return word, m[1:], right(m[1:], word)
		}
	}
	return "", nil, false
}

// right says whether the addresses and the counts of bytes are such.
func right(parts []string, word string) bool {
	if i, is := map[string]int{"send": 8, "inject": 1}[word]; is && parts[i][0] == '*' && number(parts[i][1:]) > 70000 {
		return false
	}
	if i, is := map[string]int{"bind": 1, "send": 2, "mtu": 1, "addr": 0, "route": 0}[word]; is {
		_, e := addr.Parse(parts[i])
		return e == api.OK
	}
	return true
}

func number(s string) int {
	n, err := strconv.ParseInt(s, 10, 64)
	if err != nil {
		panic(err)
	}
	return int(n)
}

func bytesOf(s string) []byte {
	if s[0] == '*' {
		return pattern251(number(s[1:]))
	}
	b, err := hex.DecodeString(s[1:])
	if err != nil {
		panic(err)
	}
	return b
}

// moveOf is the move of a command; false: it is none of trace's.
func moveOf(word string, x []string) (api.Move, bool) {
	a := func(i int) api.Addr {
		a, _ := addr.Parse(x[i])
		return a
	}
	kinds := map[string]int{"forward": api.MvForward, "drop": api.MvDrop, "twin": api.MvTwin, "swap": api.MvSwap, "spoil": api.MvSpoil, "recut": api.MvRecut}
	switch word {
	case "bind":
		return api.Move{Kind: api.MvBind, Node: number(x[0]), Addr: a(1), Port: number(x[2])}, true
	case "shut", "recv":
		return api.Move{Kind: map[string]int{"shut": api.MvShut, "recv": api.MvRecv}[word], Node: number(x[0]), Socket: number(x[1])}, true
	case "send":
		v := api.Move{Kind: api.MvSend, Node: number(x[0]), Socket: number(x[1]), Addr: a(2), Port: number(x[3]), Data: bytesOf(x[8])}
		v.Flags.DF, v.Flags.NoSum = x[4] != "", x[5] != ""
		if x[7] != "" {
			v.Flags.Opts = bytesOf(x[7])
		}
		return v, true
	case "mtu":
		return api.Move{Kind: api.MvEstimate, Node: number(x[0]), Addr: a(1)}, true
	case "inject":
		return api.Move{Kind: api.MvInject, Node: number(x[0]), Data: bytesOf(x[1])}, true
	case "tick":
		return api.Move{Kind: api.MvTick}, true
	}
	if kinds[word] == 0 {
		return api.Move{}, false
	}
	v := api.Move{Kind: kinds[word], K: number(x[0])}
	if len(x) > 1 {
		v.J = number(x[1])
	}
	if len(x) > 2 {
		v.Mask = number(x[2])
	}
	return v, true
}

// model is the chapter's words over a world of trace.
type model struct{ w *trace.World }

func newModel(t *testing.T, c net.Config) *model {
	t.Helper()
	w, e := trace.New(c)
	if e != api.OK {
		t.Fatalf("a world is refused: %d", e)
	}
	t.Cleanup(w.Close)
	return &model{w}
}

// do is what a line tells.
func (m *model) do(line string) (string, api.Errno) {
	word, x, is := taken(line, linePatterns)
	if !is {
		return "", api.ErrLine
	}
	if word == "" {
		return "", api.OK
	}
	if v, is := moveOf(word, x); is {
		return m.move(v), api.OK
	}
	switch word {
	case "run":
		n := 0
		for n < number(x[0]) && len(m.w.Flight()) > 0 {
			m.w.Do(api.Move{Kind: api.MvForward})
			n++
		}
		return fmt.Sprintf("ok %d\n", n), api.OK
	case "flight":
		return m.flight(), api.OK
	case "state":
		return m.state(number(x[0])), api.OK
	case "clear":
		return map[bool]string{true: "ok yes\n", false: "ok no\n"}[m.w.Clear()], api.OK
	}
	return fmt.Sprintf("ok %d\n", m.w.Now()), api.OK
}

func (m *model) move(v api.Move) string {
	a := m.w.Do(v)
	if a.Code != api.OK {
		return fmt.Sprintf("no %d\n", a.Code)
	}
	switch v.Kind {
	case api.MvBind:
		return fmt.Sprintf("ok %d %d\n", a.N, a.Port)
	case api.MvEstimate:
		return fmt.Sprintf("ok %d\n", a.N)
	case api.MvRecv:
		s := fmt.Sprintf("ok %s %d %s %d ", addr.Print(a.Got.Src), a.Got.SPort, addr.Print(a.Got.Dst), a.Got.DPort)
		if len(a.Got.Data) > 64 {
			return s + fmt.Sprintf("*%d %d\n", len(a.Got.Data), sumOf(a.Got.Data))
		}
		return s + fmt.Sprintf(":%x\n", a.Got.Data)
	}
	return "ok\n"
}

func (m *model) flight() string {
	l := m.w.Flight()
	s := fmt.Sprintf("ok %d\n", len(l))
	for _, x := range l {
		told := fmt.Sprint("bytes ", len(x.Bytes))
		if p, e := ip4.Parse(x.Bytes); e == api.OK {
			told = lineOf(p)
		} else if p, e := ip6.Parse(x.Bytes); e == api.OK {
			told = lineOf(p)
		}
		s += fmt.Sprintf("%d %s\n", x.Node, told)
	}
	return s
}

func (m *model) state(n int) string {
	h, e := m.w.State(n)
	if e != api.OK {
		return fmt.Sprintf("no %d\n", e)
	}
	s := fmt.Sprintf("ok %d\n", len(h.Sockets))
	for i := range h.Sockets {
		s += fmt.Sprintf("socket %d %d\n", h.Sockets[i], h.Queues[i])
	}
	for _, k := range h.Keys {
		s += fmt.Sprintf("entry %s %s %d %d\n", addr.Print(k.Src), addr.Print(k.Dst), k.Proto, k.ID)
	}
	s += fmt.Sprintf("bytes %d\n", h.Bytes)
	for _, a := range h.Paths {
		s += fmt.Sprintf("path %s\n", addr.Print(a))
	}
	return s
}

// modelLines are the lines of a text by its bytes; false: there are too many.
func modelLines(text string) ([]string, bool) {
	var l []string
	var line bytes.Buffer
	for _, c := range []byte(text) {
		if c != 10 {
			line.WriteByte(c)
			continue
		}
		l = append(l, line.String())
		line.Reset()
	}
	if line.Len() > 0 {
		l = append(l, line.String())
	}
	return l, len(text) <= 262144 && len(l) <= 4096
}

func modelCheck(script string) (int, api.Errno) {
	l, may := modelLines(script)
	if !may {
		return 1, api.ErrLine
	}
	for i, line := range l {
		if _, _, is := taken(line, linePatterns); !is {
			return i + 1, api.ErrLine
		}
	}
	return 0, api.OK
}

// modelText is the configuration of a text; else the line that offends.
func modelText(text string) (net.Config, int) {
	l, may := modelLines(text)
	if !may {
		return net.Config{}, 1
	}
	var c net.Config
	var said []string
	for i, line := range l {
		word, x, is := taken(line, textPatterns)
		if is && word == "" {
			continue
		}
		hosts, hops := len(c.Hosts), len(c.Hops)
		nodes, links := hosts+hops, len(c.Links) > 0
		ofHost := hops == 0 && hosts > 0 && !links && !slices.Contains(said, word)
		if word != "addr" && word != "route" {
			said = append(said, word)
		}
		var n []int
		for _, s := range x {
			if word != "addr" && word != "route" {
				n = append(n, number(s))
			}
		}
		switch {
		case !is:
			return c, i + 1
		case word == "link":
			c.Links = append(c.Links, net.Link{A: n[0], LinkA: n[1], B: n[2], LinkB: n[3], MTU: n[4]})
		case word == "host" && hops == 0 && !links:
			h := hostOf()
			c.Hosts = append(c.Hosts, h)
			said = nil
		case word == "hop" && !links:
			c.Hops = append(c.Hops, api.HopConfig{})
		case (word == "addr" || word == "route") && nodes > 0 && !links:
			own, routes := &[]api.Addr{}, &[]api.Route{}
			if hops > 0 {
				own, routes = &c.Hops[hops-1].Addrs, &c.Hops[hops-1].Routes
			} else {
				own, routes = &c.Hosts[hosts-1].Addrs, &c.Hosts[hosts-1].Routes
			}
			a, _ := addr.Parse(x[0])
			if word == "addr" {
				*own = append(*own, a)
			} else {
				*routes = append(*routes, api.Route{Net: a, Bits: number(x[1]), Link: number(x[2])})
			}
		case word == "quota" && ofHost:
			c.Hosts[hosts-1].Quota = api.Quota{Entries: n[0], Bytes: n[1], Holes: n[2], Timeout: int64(n[3])}
		case word == "paths" && ofHost:
			c.Hosts[hosts-1].Paths = api.Paths{Entries: n[0], Age: int64(n[1])}
		case word == "window" && ofHost:
			c.Hosts[hosts-1].Window = n[0]
		case word == "queue" && ofHost:
			c.Hosts[hosts-1].Queue, c.Hosts[hosts-1].Bytes = n[0], n[1]
		case word == "sockets" && ofHost:
			c.Hosts[hosts-1].Sockets = n[0]
		case word == "life" && ofHost:
			c.Hosts[hosts-1].Life = int64(n[0])
		default:
			return c, i + 1
		}
	}
	return modelJoined(c), 0
}

// modelJoined is a configuration with the MTUs of its links, as far as the numbers are small.
func modelJoined(c net.Config) net.Config {
	for _, l := range c.Links {
		for _, end := range [][2]int{{l.A, l.LinkA}, {l.B, l.LinkB}} {
			links := &[]int{}
			if n := end[0]; n < len(c.Hosts) {
				links = &c.Hosts[n].Links
			} else if n -= len(c.Hosts); n < len(c.Hops) {
				links = &c.Hops[n].Links
			}
			if end[1] > 1000 {
				continue
			}
			if more := end[1] + 1 - len(*links); more > 0 {
				*links = append(*links, make([]int, more)...)
			}
			(*links)[end[1]] = l.MTU
		}
	}
	return c
}
