package mosaic

import (
	"fmt"
	"strings"
	"testing"

	"mosaic/addr"
	"mosaic/api"
	"mosaic/net"
)

// refusedText: a text of which no world is made.
func refusedText(t *testing.T, text string, n int, e api.Errno) {
	t.Helper()
	w, n2, e2 := Open(text)
	if w != nil || n2 != n || e2 != e {
		t.Errorf("P26.1: Open(%q) = %v, %d, %d; want %d, %d", brief(text), w, n2, e2, n, e)
	}
	if w != nil {
		w.Close()
	}
	if told, e2 := Play(text, "now"); told != "" || e2 != e {
		t.Errorf("P26.2: Play(%q) = %q, %d; want %d", brief(text), told, e2, e)
	}
	if told, e2 := Play(text, "frob"); told != "" || e2 != e {
		t.Errorf("P26.2: Play(%q) of a script that is none = %q, %d; want %d", brief(text), told, e2, e)
	}
}

func address(t *testing.T, s string) api.Addr {
	t.Helper()
	a, e := addr.Parse(s)
	if e != api.OK {
		t.Fatalf("%q is no address", s)
	}
	return a
}

// says holds the configuration of a text against what it should be.
func says(t *testing.T, text string, want net.Config) {
	t.Helper()
	c, n, e := configOf(text)
	if n != 0 || e != api.OK || fmt.Sprintf("%+v", c) != fmt.Sprintf("%+v", want) {
		t.Errorf("P26.1: %q is\n%+v, %d, %d; want\n%+v", brief(text), c, n, e, want)
	}
}

// hostOf is a host of which nothing is said.
func hostOf() api.HostConfig {
	return api.HostConfig{Quota: api.Quota{Entries: 16, Bytes: 131072, Holes: 8192, Timeout: 60}, Paths: api.Paths{Entries: 16, Age: 600}, Window: 16, Queue: 16, Bytes: 131072, Sockets: 16, Life: 0}
}

// P26.1: what each line says.
func TestText(t *testing.T) {
	says(t, "", net.Config{})
	says(t, "host", net.Config{Hosts: []api.HostConfig{hostOf()}})
	says(t, "hop\n", net.Config{Hops: make([]api.HopConfig, 1)})
	says(t, "host\nhost\n\n # two\nhop # and one\n\thop", net.Config{Hosts: []api.HostConfig{hostOf(), hostOf()}, Hops: make([]api.HopConfig, 2)})
	for _, c := range []struct {
		line string
		set  func(h *api.HostConfig)
	}{
		{"quota 1 2 3 4", func(h *api.HostConfig) { h.Quota = api.Quota{Entries: 1, Bytes: 2, Holes: 3, Timeout: 4} }},
		{"quota 9999999999 9999999999 9999999999 9999999999", func(h *api.HostConfig) {
			h.Quota = api.Quota{Entries: 9999999999, Bytes: 9999999999, Holes: 9999999999, Timeout: 9999999999}
		}},
		{"paths 5 6", func(h *api.HostConfig) { h.Paths = api.Paths{Entries: 5, Age: 6} }},
		{"window 7", func(h *api.HostConfig) { h.Window = 7 }},
		{"queue 8 9", func(h *api.HostConfig) { h.Queue, h.Bytes = 8, 9 }},
		{"sockets 10", func(h *api.HostConfig) { h.Sockets = 10 }},
		{"life 11", func(h *api.HostConfig) { h.Life = 11 }},
		{"life 0", func(h *api.HostConfig) {}},
		{"addr 10.0.0.1", func(h *api.HostConfig) { h.Addrs = []api.Addr{address(t, "10.0.0.1")} }},
		{"addr ::\naddr ::", func(h *api.HostConfig) { h.Addrs = []api.Addr{{V: 6}, {V: 6}} }},
		{"route 10.0.0.0 8 3", func(h *api.HostConfig) { h.Routes = []api.Route{{Net: address(t, "10.0.0.0"), Bits: 8, Link: 3}} }},
		{"route fd00:: 16 1\nroute 0.0.0.0 9999999999 99", func(h *api.HostConfig) {
			h.Routes = []api.Route{{Net: address(t, "fd00::"), Bits: 16, Link: 1}, {Net: api.Addr{V: 4}, Bits: 9999999999, Link: 99}}
		}},
	} {
		a, b := hostOf(), hostOf()
		c.set(&a)
		says(t, "host\n"+c.line+"\nhost\nhop", net.Config{Hosts: []api.HostConfig{a, hostOf()}, Hops: make([]api.HopConfig, 1)})
		c.set(&b)
		says(t, "host\nhost\n"+c.line, net.Config{Hosts: []api.HostConfig{hostOf(), b}})
		says(t, "host\n"+c.line+"\nhost\n"+c.line, net.Config{Hosts: []api.HostConfig{a, b}})
	}
	all := api.HostConfig{Addrs: []api.Addr{address(t, "10.0.0.1"), address(t, "fd00::1")}, Routes: []api.Route{{Net: address(t, "10.0.0.0"), Bits: 8}, {Net: address(t, "fd00::"), Bits: 16}}, Quota: api.Quota{Entries: 1, Bytes: 2, Holes: 3, Timeout: 4}, Paths: api.Paths{Entries: 5, Age: 6}, Window: 7, Queue: 8, Bytes: 9, Sockets: 10, Life: 11}
	says(t, "host\nlife 11\naddr 10.0.0.1\nsockets 10\nroute 10.0.0.0 8 0\nqueue 8 9\nwindow 7\nroute fd00:: 16 0\npaths 5 6\nquota 1 2 3 4\naddr fd00::1", net.Config{Hosts: []api.HostConfig{all}})
	says(t, "hop\naddr 10.0.0.9\nroute 10.0.0.0 8 1\naddr fd00::9\nhop\naddr 10.0.0.8", net.Config{Hops: []api.HopConfig{
		{Addrs: []api.Addr{address(t, "10.0.0.9"), address(t, "fd00::9")}, Routes: []api.Route{{Net: address(t, "10.0.0.0"), Bits: 8, Link: 1}}},
		{Addrs: []api.Addr{address(t, "10.0.0.8")}},
	}})
}

// P26.1: a node has as many links as the greatest number that is given it, and one; the MTU of one that is not given is 0.
func TestLinks(t *testing.T) {
	c := net.Config{Hosts: []api.HostConfig{hostOf(), hostOf()}, Hops: make([]api.HopConfig, 2)}
	c.Links = []net.Link{{A: 0, LinkA: 2, B: 2, LinkB: 1, MTU: 1500}, {A: 3, LinkA: 0, B: 0, LinkB: 0, MTU: 576}, {A: 3, LinkA: 15, B: 1, LinkB: 3, MTU: 9999999999}}
	c.Hosts[0].Links, c.Hosts[1].Links = []int{576, 0, 1500}, []int{0, 0, 0, 9999999999}
	c.Hops[0].Links, c.Hops[1].Links = []int{0, 1500}, append(append([]int{576}, make([]int, 14)...), 9999999999)
	says(t, "host\nhost\nhop\nhop\nlink 0 2 2 1 1500\nlink 3 0 0 0 576\nlink 3 15 1 3 9999999999", c)

	const nodes = "host\nhost\nhop\n"
	w := opened(t, nodes+"link 1 0 0 0 68\nlink 0 1 2 0 65535")
	tells(t, w, "state 0 => ok 0; bytes 0", "state 1 => ok 0; bytes 0", "state 2 => no 240")
	for _, links := range []string{
		"link 0 0 3 0 1500", "link 3 0 0 0 1500", "link 0 0 9999999999 0 1500", "link 9999999999 9999999999 9999999999 9999999999 9999999999", "link 0 0 0 1 1500", "link 0 0 0 0 1500", "link 0 1 1 0 1500", "link 0 0 1 1 1500", "link 0 16 1 0 1500", "link 0 0 1 16 1500", "link 0 9999999999 1 0 1500", "link 0 0 1 9999999999 1500",
		"link 0 0 1 0 67", "link 0 0 1 0 65536", "link 0 0 1 0 0", "link 0 0 1 0 9999999999", "link 0 0 1 0 1500\nlink 0 0 2 0 1500", "link 0 0 1 0 1500\nlink 2 0 1 0 1500", "link 0 0 1 0 1500\nlink 0 0 1 0 1500", "link 0 0 1 0 1500\nlink 0 2 2 0 1500", "link 0 0 1 0 1500\nlink 0 0 2 0 576",
	} {
		refusedText(t, nodes+links, 0, api.ErrArg)
		refusedText(t, nodes+links+"\n", 0, api.ErrArg)
	}
	var text strings.Builder
	text.WriteString("host\nhost\n")
	for k := range 16 {
		fmt.Fprintf(&text, "link 0 %d 1 %d %d\n", k, 15-k, 1000+k)
	}
	opened(t, text.String())
	refusedText(t, text.String()+"link 0 16 1 16 1500", 0, api.ErrArg)
	refusedText(t, "link 0 0 1 0 1500", 0, api.ErrArg)
	refusedText(t, "link 0 0 1 0 1500\nhost", 2, api.ErrLine)
}

// P26.1: what is refused by net's own words.
func TestRefusedByNet(t *testing.T) {
	refusedText(t, "", 0, api.ErrArg)
	refusedText(t, "# nothing\n\n", 0, api.ErrArg)
	for _, line := range []string{
		"addr 0.0.0.0", "addr 127.0.0.1", "addr 224.0.0.1", "addr 255.255.255.255", "addr ::", "addr ::1", "addr ff00::", "addr 10.0.0.1\naddr 10.0.0.1", "addr 1::\naddr 1:0::", "route 10.0.0.0 8 0", "route 10.0.0.1 8 1", "route 10.0.0.0 33 0", "route 10.0.0.0 9999999999 0", "route 10.0.0.0 8 9999999999", "window 65", "quota 0 1 1 1", "quota 65 1 1 1", "quota 1 1048577 1 1", "quota 1 1 0 1",
		"quota 1 1 8193 1", "quota 1 1 1 0", "paths 0 1", "paths 65 1", "paths 1 0", "queue 65 1", "sockets 0", "sockets 33", "life 4294967297",
	} {
		refusedText(t, "host\n"+line, 0, api.ErrArg)
		refusedText(t, "host\n"+line+"\nhost\nwindow", 4+strings.Count(line, "\n"), api.ErrLine)
	}
	for _, line := range []string{"quota 64 1048576 8192 1", "paths 64 1", "window 64", "window 0", "queue 64 1", "sockets 32", "life 4294967296", "addr 240.0.0.1", "window 1\nsockets 1\nlife 1"} {
		opened(t, "host\n"+line)
	}
	nine := strings.Repeat("addr 10.0.0.%d\n", 9)
	refusedText(t, "host\n"+fmt.Sprintf(nine, 1, 2, 3, 4, 5, 6, 7, 8, 9), 0, api.ErrArg)
	opened(t, "hop\n"+fmt.Sprintf(nine[:len(nine)/9*8], 1, 2, 3, 4, 5, 6, 7, 8))
	opened(t, strings.Repeat("host\n", 8)+strings.Repeat("hop\n", 8))
	refusedText(t, strings.Repeat("host\n", 17), 0, api.ErrArg)
	refusedText(t, strings.Repeat("host\n", 4096), 0, api.ErrArg)
	refusedText(t, strings.Repeat("hop\n", 4095)+"host", 4096, api.ErrLine)
}

// P26.1: lines that are none of a world's text, or stand where they may not.
func TestRefusedLines(t *testing.T) {
	for _, line := range []string{"addr 10.0.0.1", "route 10.0.0.0 8 0", "quota 1 1 1 1", "paths 1 1", "window 1", "queue 1 1", "sockets 1", "life 1"} {
		refusedText(t, line, 1, api.ErrLine)
		refusedText(t, "# x\n"+line+"\nhost", 2, api.ErrLine)
		refusedText(t, "host\nhost\nlink 0 0 1 0 1500\n\n"+line, 5, api.ErrLine)
		for _, more := range []string{" 0", " x", " 10.0.0.1", "x", "\r"} {
			refusedText(t, "host\n"+line+more, 2, api.ErrLine)
		}
		for cut := strings.LastIndexByte(line, ' '); cut > 0; cut = strings.LastIndexByte(line[:cut], ' ') {
			refusedText(t, "host\n"+line[:cut], 2, api.ErrLine)
		}
		refusedText(t, "host\n"+strings.ToUpper(line[:1])+line[1:], 2, api.ErrLine)
	}
	for _, line := range []string{"quota 1 1 1 1", "paths 1 1", "window 1", "queue 1 1", "sockets 1", "life 1"} {
		refusedText(t, "host\n"+line+"\n"+line, 3, api.ErrLine)
		refusedText(t, "host\n"+line+"\nlife 1\naddr 10.0.0.1\nlife 1", map[bool]int{true: 3, false: 5}[line == "life 1"], api.ErrLine)
		refusedText(t, "hop\n"+line, 2, api.ErrLine)
		refusedText(t, "host\n"+line+"\nhop\n"+line, 4, api.ErrLine)
		opened(t, "host\n"+line+"\nhost\n"+line)
	}
	for _, c := range []string{"host 0", "host x", "Host", "hosts", "hop 0", "hop hop", "hophop", "link", "link 0 0 1 0", "link 0 0 1 0 1500 0", "link 0 0 1 0 -1", "link a 0 1 0 1500", "link 0 0 1 0 00000000001", "addr", "addr 10.0.0", "addr 10.0.0.1/8", "route 10.0.0.0/8 0", "route 10.0.0.0 8", "route 8 10.0.0.0 0", "route 10.0.0.0 -8 0", "window -1", "window 1.", "window 12345678901", "tick", "now", "flight", "shut 0 1", "bind 0 10.0.0.1 7", "run 0", "frob", "\x00", "host\r"} {
		refusedText(t, "host\n"+c+"\n", 2, api.ErrLine)
		refusedText(t, "host\n\n"+c, 3, api.ErrLine)
		refusedText(t, "host\n"+c+"\nfrob", 2, api.ErrLine)
	}
	refusedText(t, "hop\nhost", 2, api.ErrLine)
	refusedText(t, "host\nhop\n\nhost", 4, api.ErrLine)
	refusedText(t, "host\nhost\nlink 0 0 1 0 1500\nhop", 4, api.ErrLine)
	refusedText(t, "host\nhost\nlink 0 0 1 0 1500\nhost", 4, api.ErrLine)
	opened(t, "host\nhost\nlink 0 0 1 0 1500\n# more\n\n \t\nlink 0 1 1 1 68")
	for _, n := range []string{"0", "0000000001"} {
		opened(t, "host\nlife "+n)
	}
}

// P26.1: texts as long as may be, and longer.
func TestLongTexts(t *testing.T) {
	block := strings.Repeat("#", 65535) + "\n"
	opened(t, "host\n"+strings.Repeat("\n", 4095))
	opened(t, "host\n"+strings.Repeat("\n", 4094)+"#")
	refusedText(t, "host\n"+strings.Repeat("\n", 4096), 1, api.ErrLine)
	refusedText(t, "host\n"+strings.Repeat("\n", 4095)+"#", 1, api.ErrLine)
	refusedText(t, "host\nfrob"+strings.Repeat("\n", 4096), 1, api.ErrLine)
	refusedText(t, "host\nwindow 65"+strings.Repeat("\n", 4096), 1, api.ErrLine)
	opened(t, "host\n"+strings.Repeat(block, 3)+block[5:])
	refusedText(t, "host\n"+strings.Repeat(block, 3)+block[4:], 1, api.ErrLine)
	refusedText(t, "host\nfrob\n"+strings.Repeat(block, 4), 1, api.ErrLine)
	opened(t, "host"+strings.Repeat(" ", 131196))
	refusedText(t, "host"+strings.Repeat(" ", 131197), 1, api.ErrLine)
	opened(t, "host\n"+strings.Repeat("#", 131200))
	refusedText(t, "host\n"+strings.Repeat("#", 131201), 2, api.ErrLine)
	refusedText(t, "host\nwindow 65\n"+strings.Repeat("#", 131201), 3, api.ErrLine)
	refusedText(t, "host\nhost x\n"+strings.Repeat("#", 131201), 2, api.ErrLine)
}

// P26.1: what is not said of a host has the numbers of the table.
func TestDefaults(t *testing.T) {
	w := opened(t, exampleText)
	for i := range 16 {
		tells(t, w, fmt.Sprintf("bind 0 0.0.0.0 0 => ok %d %d", i+1, 49152+i))
	}
	tells(t, w, "bind 0 0.0.0.0 0 => no 201")
	tells(t, w, "bind 1 0.0.0.0 7 => ok 1 7")
	for range 17 {
		tells(t, w, "send 0 1 10.0.1.1 7 *5000 => ok", "run 100 => ok 15")
	}
	tells(t, w, "state 1 => ok 1; socket 1 16; bytes 0")
	sockets := opened(t, strings.Replace(exampleText, "host", "host\nsockets 2\nqueue 9 9", 1))
	tells(t, sockets, "bind 0 0.0.0.0 0 => ok 1 49152", "bind 0 0.0.0.0 0 => ok 2 49153", "bind 0 0.0.0.0 0 => no 201", "bind 1 10.0.1.1 9 => ok 1 9")
	for range 10 {
		tells(t, sockets, "send 1 1 10.0.0.1 49152 : => ok", "run 2 => ok 2")
	}
	tells(t, sockets, "send 1 1 10.0.0.1 49153 *10 => ok", "send 1 1 10.0.0.1 49153 *9 => ok", "run 4 => ok 4", "state 0 => ok 2; socket 1 9; socket 2 1; bytes 0")
}
