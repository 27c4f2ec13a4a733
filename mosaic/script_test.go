package mosaic

import (
	"fmt"
	"slices"
	"strings"
	"testing"

	"mosaic/api"
	"mosaic/trace"
)

// source is a plain generator, so that every run sees the same inputs.
type source uint64

func (s *source) next() uint64 {
	*s ^= *s << 13
	*s ^= *s >> 7
	*s ^= *s << 17
	return uint64(*s)
}

func (s *source) below(n int) int { return int((s.next() >> 11) % uint64(n)) }

// once in n times it says yes.
func (s *source) once(n int) bool { return s.below(n) == 0 }

func pick[T any](s *source, l ...T) T { return l[s.below(len(l))] }

func (s *source) bytes(n int) []byte {
	b := make([]byte, n)
	for i := range b {
		b[i] = byte(s.next() >> 20)
	}
	return b
}

// world is a text of hosts, each at a link of its own to the first of some routers in a row, and how many hosts and routers there are.
func (s *source) world() (string, int, int) {
	hosts, hops := 1+s.below(3), s.below(3)
	if hops == 0 {
		hosts = min(hosts, 2)
	}
	var nodes, links strings.Builder
	mtu := func() int { return pick(s, 68, 76, 296, 576, 1280, 1281, 1500, 1500, 65535) }
	for n := range hosts {
		fmt.Fprintf(&nodes, "host\naddr 10.0.%d.1\naddr fd00:%d::1\n", n, n)
		if hosts+hops > 1 {
			fmt.Fprintf(&nodes, "route 10.0.0.0 8 0\nroute fd00:: 16 0\n")
		}
		for _, line := range []string{"quota 2 4000 8 5", "quota 64 1048576 8192 3", "paths 2 4", "window 2", "queue 3 3000", "sockets 4", "life 3"} {
			if word, _, _ := strings.Cut(line, " "); s.once(4) && !strings.Contains(nodes.String()[strings.LastIndex(nodes.String(), "host"):], word) {
				nodes.WriteString(line + "\n")
			}
		}
	}
	for n := range hops {
		fmt.Fprintf(&nodes, "hop\naddr 10.0.%d.9\naddr fd00:%d::9\n", n, n)
		for to := range hosts {
			// The first router has each host at its link, the others have all hosts towards it.
			link := to
			if n > 0 {
				link = 0
			}
			fmt.Fprintf(&nodes, "route 10.0.%d.0 24 %d\nroute fd00:%d:: 32 %d\n", to, link, to, link)
		}
		if n > 0 {
			up := hosts
			if n > 1 {
				up = 1
			}
			fmt.Fprintf(&links, "link %d %d %d 0 %d\n", hosts+n-1, up, hosts+n, mtu())
		}
	}
	switch {
	case hops > 0:
		for n := range hosts {
			fmt.Fprintf(&links, "link %d 0 %d %d %d\n", n, hosts, n, mtu())
		}
	case hosts == 2:
		fmt.Fprintf(&links, "link 1 0 0 0 %d\n", mtu())
	}
	return nodes.String() + links.String(), hosts, hops
}

// scripted is what a script is written for.
type scripted struct {
	*source
	hosts, nodes int
}

// host is most often one's number.
func (s scripted) host() int {
	if s.once(40) {
		return pick(s.source, s.hosts, s.nodes, 9999999999)
	}
	return s.below(s.hosts)
}

// place is most often one of the flight's first.
func (s scripted) place() int {
	if s.once(60) {
		return 9999999999
	}
	return s.below(1 + s.below(6))
}

func (s scripted) addr() string {
	n := s.below(s.nodes)
	return pick(s.source, fmt.Sprintf("10.0.%d.1", n), fmt.Sprintf("10.0.%d.1", n), fmt.Sprintf("fd00:%d::1", n), fmt.Sprintf("FD00:%x:0::01", n), "0.0.0.0", "::", "10.9.9.9", "224.0.0.1")
}

func (s scripted) data() string {
	if s.once(3) {
		return fmt.Sprintf(":%x", s.bytes(s.below(80)))
	}
	if s.once(30) {
		return fmt.Sprintf("*%d", pick(s.source, 65507, 65508, 65528, 65576, 70000))
	}
	return fmt.Sprintf("*%d", pick(s.source, s.below(70), s.below(300), s.below(3000), 1400))
}

func (s scripted) send() string {
	to := s.below(s.nodes)
	line := fmt.Sprintf("send %d 1 10.0.%d.1 %d ", s.host(), to, pick(s.source, 7, 7, 7, 8, 0))
	if s.once(3) {
		line = fmt.Sprintf("send %d 2 fd00:%d::1 7 ", s.host(), to)
	}
	if s.once(3) {
		line += "df "
	}
	for _, flag := range []string{"nosum ", "opts=:01010101 ", "opts=:94040000 ", "opts=:0900 "} {
		if s.once(10) && !(strings.HasPrefix(flag, "opts=") && strings.Contains(line, "opts=")) {
			line += flag
		}
	}
	return line + s.data()
}

// line is a command.
func (s scripted) line() string {
	switch k := s.below(100); {
	case k < 6:
		return fmt.Sprintf("bind %d %s %d", s.host(), pick(s.source, "0.0.0.0", "::", s.addr()), pick(s.source, 0, 7, 7, 8, 65535, 65536))
	case k < 7:
		return fmt.Sprintf("shut %d %d", s.host(), s.below(6))
	case k < 28:
		return s.send()
	case k < 36:
		return fmt.Sprintf("recv %d %d", s.host(), pick(s.source, 1, 1, 2, 2, s.below(5)))
	case k < 39:
		return fmt.Sprintf("mtu %d %s", s.host(), s.addr())
	case k < 55:
		return fmt.Sprintf("forward %d", s.place())
	case k < 58:
		return fmt.Sprintf("drop %d", s.place())
	case k < 61:
		return fmt.Sprintf("twin %d", s.place())
	case k < 64:
		return fmt.Sprintf("swap %d %d", s.place(), s.place())
	case k < 66:
		return fmt.Sprintf("spoil %d %d %d", s.place(), s.below(60), pick(s.source, 0, 1, 255, 256, s.below(256)))
	case k < 69:
		return fmt.Sprintf("inject %d %s", s.below(s.nodes+1), s.data())
	case k < 72:
		return fmt.Sprintf("recut %d %d", s.place(), pick(s.source, 67, 68, 100, 576, 1500, 65535))
	case k < 77:
		return "tick"
	case k < 82:
		return fmt.Sprintf("run %d", pick(s.source, 0, 1, 3, 1000, 9999999999))
	case k < 89:
		return "flight"
	case k < 95:
		return fmt.Sprintf("state %d", s.host())
	case k < 97:
		return "clear"
	}
	return "now"
}

// bad is a line that was changed a little; most often it is none.
func (s scripted) bad() string {
	line := s.line()
	if len(line) > 300 {
		line = line[:300]
	}
	for range 1 + s.below(2) {
		at := s.below(len(line) + 1)
		part := pick(s.source, " ", "\t", "#", "0", "9", "a", ":", "*", "-", "x", "\r", "\x00", "\xff", "٣", "\n", " 1", "df ", "nosum ", "opts=:00 ", "10.0.0.1 ", "0000000", "")
		switch s.below(3) {
		case 0:
			line = line[:at] + part + line[at:]
		case 1:
			line = line[:at] + line[min(len(line), at+1+s.below(4)):]
		default:
			line = line[:at] + part + line[min(len(line), at+1):]
		}
	}
	return line
}

// begin binds two sockets of each host.
func (s scripted) begin() []string {
	var l []string
	for n := range s.hosts {
		l = append(l, fmt.Sprintf("bind %d 0.0.0.0 7", n), fmt.Sprintf("bind %d :: 7", n))
	}
	return l
}

// P26.1: lines of all kinds, and lines that are none, tell what the model does, in worlds of all kinds.
func TestModel(t *testing.T) {
	t.Parallel()
	g := source(2602)
	seen := map[string]int{}
	for range 250 {
		text, hosts, hops := g.world()
		s := scripted{&g, hosts, hosts + hops}
		c, n := modelText(text)
		if n != 0 {
			t.Fatalf("a text is refused: %d\n%s", n, text)
		}
		w, m := opened(t, text), newModel(t, c)
		lines := s.begin()
		for range 200 {
			lines = append(lines, s.line())
			if g.once(4) {
				lines = append(lines, s.bad())
			}
		}
		for _, line := range lines {
			want, wantE := m.do(line)
			got, e := w.Do(line)
			if got != want || e != wantE {
				t.Fatalf("P26.1: %q tells %q, %d; want %q, %d\n%s", brief(line), brief(got), e, brief(want), wantE, text)
			}
			if n, e := Check(line); (e != wantE || n != map[bool]int{true: 0, false: 1}[e == api.OK]) && !strings.Contains(line, "\n") {
				t.Fatalf("P26.1: Check(%q) = %d, %d; want %d", brief(line), n, e, wantE)
			}
			word, _, _ := strings.Cut(line, " ")
			seen[fmt.Sprintf("%s %d %v", word, wantE, strings.HasPrefix(want, "ok"))]++
			for _, what := range []string{"\nentry ", "\npath ", " frag ", " off ", " more ", " df ", " bytes ", "ok yes", "ok no", " *"} {
				if strings.Contains(want, what) {
					seen[what]++
				}
			}
		}
		w.Close()
		m.w.Close()
	}
	for word := range shapes {
		refused, none := 10, 10
		switch word {
		case "run", "flight", "clear", "now", "tick": // a short word is seldom changed behind it
			refused, none = 0, 0
		}
		if seen[word+" 0 true"] < 200 || seen[word+" 0 false"] < refused || seen[word+" 260 false"] < none {
			t.Errorf("of %q: %d done, %d refused, %d no command", word, seen[word+" 0 true"], seen[word+" 0 false"], seen[word+" 260 false"])
		}
	}
	for _, what := range []string{"\nentry ", "\npath ", " frag ", " off ", " more ", " df ", " bytes ", "ok yes", "ok no", " *"} {
		if seen[what] < 50 {
			t.Errorf("only %d answers have %q", seen[what], what)
		}
	}
}

// textLine is a line of a world's text, most often one that may not stand anywhere.
func (s *source) textLine() string {
	n := func() string { return fmt.Sprint(pick(s, 0, 0, 1, 2, 7, 8, 16, 17, 64, 65, 576, 1500, 9999999999)) }
	return pick(s, "", "#", "host", "host", "hop", "hop", "addr 10.0.0.1", "addr fd00::1", "addr 0.0.0.0", "addr x", "route 10.0.0.0 8 0", "route 10.0.0.1 8 "+n(), "route fd00:: "+n()+" 0", "quota "+n()+" "+n()+" "+n()+" "+n(), "paths "+n()+" "+n(), "window "+n(), "queue "+n()+" "+n(), "sockets "+n(), "life "+n(), "link "+n()+" "+n()+" "+n()+" "+n()+" "+n(), "link 0 0 1 0 1500", "link 0 0 1 1 576", "now", "frob", "tick")
}

// P26.1: texts of all kinds, and such as are a little wrong, are opened or refused as the chapter says.
func TestModelText(t *testing.T) {
	t.Parallel()
	g := source(2603)
	seen := map[string]int{}
	for range 12000 {
		text, _, _ := g.world()
		l := strings.Split(strings.TrimSuffix(text, "\n"), "\n")
		if g.once(6) {
			l = nil
			for range g.below(12) {
				l = append(l, g.textLine())
			}
		}
		for range g.below(4) {
			at := g.below(len(l) + 1)
			switch k := g.below(4); {
			case k == 0 && at < len(l):
				l = slices.Delete(l, at, at+1)
			case k == 1 && at < len(l):
				l = slices.Insert(l, g.below(len(l)), l[at])
			case k == 2 && at < len(l):
				b := g.below(len(l[at]) + 1)
				l[at] = l[at][:b] + pick(&g, " ", "#", "0", "9", "x", ".", "\t", "-") + l[at][min(len(l[at]), b+g.below(2)):]
			default:
				l = slices.Insert(l, at, g.textLine())
			}
		}
		text = strings.Join(l, "\n") + pick(&g, "", "\n")
		c, n := modelText(text)
		want := api.ErrLine
		if n == 0 {
			w, e := trace.New(c)
			want = e
			if e == api.OK {
				w.Close()
				says(t, text, c)
			}
		}
		w, n2, e := Open(text)
		if n2 != n || e != want || (w == nil) != (want != api.OK) {
			t.Fatalf("P26.1: Open(%q) = %v, %d, %d; want %d, %d", text, w, n2, e, n, want)
		}
		if w != nil {
			w.Close()
		}
		seen[fmt.Sprint(want)]++
		if n > 1 {
			seen["a later line"]++
		}
	}
	for _, what := range []string{fmt.Sprint(api.OK), fmt.Sprint(api.ErrArg), fmt.Sprint(api.ErrLine), "a later line"} {
		if seen[what] < 1000 {
			t.Errorf("too few are %s: %d", what, seen[what])
		}
	}
}

// told is all that the lines of a script tell, one behind the other.
func told(t *testing.T, text string, lines []string) string {
	t.Helper()
	w := opened(t, text)
	defer w.Close()
	var all strings.Builder
	for _, line := range lines {
		got, e := w.Do(line)
		if e != api.OK {
			t.Fatalf("P26.2: Do(%q) = %d", brief(line), e)
		}
		all.WriteString(got)
	}
	return all.String()
}

// fits says whether a text keeps the limits.
func fits(text string) bool {
	_, may := modelLines(text)
	return may
}

// P26.2: Play is Open and Do, one behind the other; where a line is no command, nothing is told.
func TestPlay(t *testing.T) {
	t.Parallel()
	g := source(2604)
	for range 150 {
		text, hosts, hops := g.world()
		s := scripted{&g, hosts, hosts + hops}
		lines := s.begin()
		for range g.below(250) {
			lines = append(lines, s.line())
		}
		script := strings.Join(lines, "\n") + pick(&g, "", "\n", "\n\n")
		got, e := Play(text, script)
		if want := told(t, text, lines); got != want || e != api.OK {
			t.Fatalf("P26.2: Play tells %q, %d; want %q", brief(got), e, brief(want))
		}
		if n, e := Check(script); n != 0 || e != api.OK {
			t.Fatalf("P26.1: Check = %d, %d", n, e)
		}
		at := g.below(len(lines) + 1)
		bad := strings.Join(slices.Insert(slices.Clone(lines), at, s.bad()), "\n")
		n, checked := modelCheck(bad)
		if n2, e := Check(bad); n2 != n || e != checked {
			t.Fatalf("P26.1: Check = %d, %d; want %d, %d", n2, e, n, checked)
		}
		if got, e := Play(text, bad); e != checked || e != api.OK && got != "" {
			t.Fatalf("P26.2: Play = %q, %d; want %d", brief(got), e, checked)
		}
	}
	if got, e := Play(exampleText, ""); got != "" || e != api.OK {
		t.Errorf("P26.2: Play of no line = %q, %d", got, e)
	}
	if got, e := Play(exampleText, "now\nnow"); got != "ok 0\nok 0\n" || e != api.OK {
		t.Errorf("P26.2: Play = %q, %d", got, e)
	}
}

// P26.2: the same text and script tell the same, however often they are played, at once too.
func TestOneOutcome(t *testing.T) {
	t.Parallel()
	g := source(2605)
	for range 10 {
		text, hosts, hops := g.world()
		s := scripted{&g, hosts, hosts + hops}
		lines := s.begin()
		for range 120 {
			lines = append(lines, s.line())
		}
		script := strings.Join(lines, "\n")
		want, _ := Play(text, script)
		answers := make(chan string)
		for range 8 {
			go func() {
				got, _ := Play(text, script)
				answers <- got
			}()
		}
		for range 8 {
			if got := <-answers; got != want {
				t.Fatalf("Play tells %q, and then %q", brief(want), brief(got))
			}
		}
	}
}

// P26.3: questions, and lines that are none, change nothing of what all others tell.
func TestNothingChanges(t *testing.T) {
	t.Parallel()
	g := source(2606)
	for range 120 {
		text, hosts, hops := g.world()
		s := scripted{&g, hosts, hosts + hops}
		lines := s.begin()
		for range 150 {
			lines = append(lines, s.line())
		}
		plain, asked := opened(t, text), opened(t, text)
		for _, line := range lines {
			for range g.below(4) {
				between := pick(&g, "flight", fmt.Sprintf("state %d", s.host()), "clear", "now", fmt.Sprintf("mtu %d %s", s.host(), s.addr()), "", "# tick")
				if _, _, is := taken(between, linePatterns); !is {
					t.Fatalf("%q is no command", between)
				}
				if bad := s.bad(); g.once(2) && !isModelCommand(bad) {
					between = bad
				}
				asked.Do(between)
			}
			want, wantE := plain.Do(line)
			if got, e := asked.Do(line); got != want || e != wantE {
				t.Fatalf("P26.3: %q tells %q, %d; without questions %q, %d", brief(line), brief(got), e, brief(want), wantE)
			}
		}
		if a, b := all(t, plain), all(t, asked); a != b {
			t.Fatalf("P26.3: at the end %q; without questions %q", brief(b), brief(a))
		}
		plain.Close()
		asked.Close()
	}
}

func isModelCommand(line string) bool {
	word, _, is := taken(line, linePatterns)
	return is && word != ""
}

// spread writes lines with blanks, remarks and empty lines.
func (s *source) spread(lines []string) string {
	blanks := func(least int) string {
		b := strings.Repeat(" ", least)
		for range s.below(3) {
			b = pick(s, b+" ", b+"\t", "\t"+b, strings.ReplaceAll(b, " ", "\t"))
		}
		return b
	}
	var all strings.Builder
	for _, line := range lines {
		for s.once(4) {
			all.WriteString(blanks(0) + pick(s, "", "#", "# frob", "#\x00\xff#", "## tick", "#host") + "\n")
		}
		all.WriteString(blanks(0))
		for i, word := range strings.Fields(line) {
			if i > 0 {
				all.WriteString(blanks(1))
			}
			all.WriteString(word)
		}
		all.WriteString(blanks(0) + pick(s, "", "", "#", "# x", "#tick", "# \t now #") + "\n")
	}
	if s.once(2) {
		return strings.TrimSuffix(all.String(), "\n")
	}
	return all.String()
}

// P26.4: blanks, remarks and empty lines change nothing, in the text and in the script.
func TestBlanks(t *testing.T) {
	t.Parallel()
	g := source(2607)
	for range 120 {
		text, hosts, hops := g.world()
		s := scripted{&g, hosts, hosts + hops}
		lines := s.begin()
		for range 120 {
			lines = append(lines, s.line())
		}
		text2, script2 := g.spread(strings.Split(text, "\n")), g.spread(lines)
		if !fits(text2) || !fits(script2) {
			t.Fatal("the limits are not kept")
		}
		want := told(t, text, lines)
		if got, e := Play(text2, script2); got != want || e != api.OK {
			t.Fatalf("P26.4: Play tells %q, %d; want %q\n%s", brief(got), e, brief(want), text2)
		}
		if got := told(t, text2, strings.Split(script2, "\n")); got != want {
			t.Fatalf("P26.4: Do tells %q; want %q", brief(got), brief(want))
		}
	}
}

// P1, P26.1: no bytes make a call panic; each line is a command or none.
func TestAnyBytes(t *testing.T) {
	t.Parallel()
	g := source(2608)
	words := []string{"bind", "shut", "send", "recv", "mtu", "forward", "drop", "twin", "swap", "spoil", "inject", "recut", "tick", "run", "flight", "state", "clear", "now", "host", "hop", "addr", "route", "quota", "paths", "window", "queue", "sockets", "life", "link", "0", "1", "2", "7", "1500", "9999999999", "10.0.0.1", "10.0.1.1", "::", "fd00::1", ":", ":00", "*9", "*70000", "*70001", "df", "nosum", "opts=:00000000", "opts=", "#", "\r", "\xff"}
	c, _ := modelText(exampleText)
	w, m := opened(t, exampleText), newModel(t, c)
	for range 60000 {
		var line string
		for range g.below(8) {
			line += pick(&g, words...) + pick(&g, " ", " ", " ", "\t", "", "\n")
		}
		if g.once(5) {
			line = string(g.bytes(g.below(40)))
		}
		got, e := w.Do(line)
		want, wantE := m.do(line)
		if got != want || e != wantE {
			t.Fatalf("P26.1: %q tells %q, %d; want %q, %d", line, got, e, want, wantE)
		}
		if n, e := Check(line); n != firstBad(line) || (e == api.OK) != (n == 0) {
			t.Fatalf("P26.1: Check(%q) = %d, %d", line, n, e)
		}
		_, n := modelText(line)
		if x, n2, e := Open(line); n2 != n || n > 0 && (x != nil || e != api.ErrLine) {
			t.Fatalf("P26.1: Open(%q) = %d, %d; want %d", line, n2, e, n)
		} else if x != nil {
			x.Close()
		}
	}
}

func firstBad(script string) int {
	n, _ := modelCheck(script)
	return n
}
