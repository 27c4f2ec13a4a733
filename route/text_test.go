package route

import (
	"slices"
	"strconv"
	"strings"
	"testing"

	"mosaic/api"
)

// parses sees that a text is these routes.
func parses(t *testing.T, s string, want ...api.Route) {
	t.Helper()
	if l, e := Parse(s); !slices.Equal(l, want) || e != api.OK {
		t.Errorf("P21.5: Parse(%q) = %v, %d; want %v", s, l, e, want)
	}
}

// parsesNot sees that a text is refused.
func parsesNot(t *testing.T, s string, want api.Errno) {
	t.Helper()
	if l, e := Parse(s); len(l) != 0 || e != want {
		t.Errorf("P21.5: Parse(%.100q) = %v, %d; want %d", s, l, e, want)
	}
}

// prints sees that routes are this text.
func prints(t *testing.T, want string, l ...api.Route) {
	t.Helper()
	if s, e := Print(l); s != want || e != api.OK {
		t.Errorf("P21.4: Print(%v) = %q, %d; want %q", l, s, e, want)
	}
}

func TestExamplesOfPrint(t *testing.T) {
	prints(t, "0.0.0.0/0 0\n10.0.0.0/8 1\n10.1.0.0/16 2\n2001:db8::/32 3\n", examples(t)...)
	prints(t, "")
	prints(t, "255.255.255.255/32 15\n::/0 10\n", to(t, "::", 0, 10), to(t, "255.255.255.255", 32, 15))
	prints(t, "2001:db8::1:0:0:1/128 9\n", to(t, "2001:db8:0:0:1:0:0:1", 128, 9))
}

func TestExamplesOfParse(t *testing.T) {
	parses(t, "10.0.0.0/8 1\n", to(t, "10.0.0.0", 8, 1))
	for _, s := range []string{"10.0.0.0/08 1\n", "10.0.0.0/8 1", "10.0.0.0/8  1\n", "10.0.0.0 8 1\n", "\n"} {
		parsesNot(t, s, api.ErrBad)
	}
	for _, s := range []string{"10.0.0.1/8 1\n", "10.0.0.0/8 16\n", "10.0.0.0/33 1\n"} {
		parsesNot(t, s, api.ErrArg)
	}
	parses(t, "2001:DB8:0::/32 3\n", to(t, "2001:db8::", 32, 3))
}

// What Parse tells is in the order of the lines.
func TestOrderOfLines(t *testing.T) {
	parses(t, "")
	parses(t, "::/0 0\n10.1.0.0/16 2\n0.0.0.0/0 15\n10.0.0.0/8 1\n", to(t, "::", 0, 0), to(t, "10.1.0.0", 16, 2), to(t, "0.0.0.0", 0, 15), to(t, "10.0.0.0", 8, 1))
	parses(t, "10.0.0.0/16 0\n10.0.0.0/8 0\n", to(t, "10.0.0.0", 16, 0), to(t, "10.0.0.0", 8, 0))
}

func TestBadLines(t *testing.T) {
	for _, line := range []string{
		"", " ", "/", "/ ", "x", "10.0.0.0", "10.0.0.0/", "10.0.0.0/8", "10.0.0.0/8 ", "10.0.0.0/ 1", "/8 1", "10.0.0.0 /8 1", "10.0.0.0/ 8 1",
		" 10.0.0.0/8 1", "10.0.0.0/8 1 ", "10.0.0.0/8 1\r", "10.0.0.0/8\t1", "10.0.0.0/8\u00a01", "10.0.0.0/8 1 2", "10.0.0.0/8/8 1", "10.0.0.0/8 1/1",
		"10.0.0.0/8 01", "10.0.0.0/8 00", "10.0.0.0/00 1", "10.0.0.0/000 1", "10.0.0.0/008 1", "10.0.0.0/8 001", "10.0.0.0/8 1000", "10.0.0.0/0008 1", "10.0.0.0/1000 1",
		"10.0.0.0/+8 1", "10.0.0.0/8 +1", "10.0.0.0/-8 1", "10.0.0.0/8 -1", "10.0.0.0/-0 1", "10.0.0.0/8 -0", "10.0.0.0/0x8 1", "10.0.0.0/8 a", "10.0.0.0/1_6 1", "10.0.0.0/8. 1", "10.0.0.0/8 1.0", "10.0.0.0/8 1e1",
		"10.0.0.0/٨ 1", "10.0.0.0/8 １", "10.0.0.0/8 1\x00", "\x0010.0.0.0/8 1", "10.0.0.0/8\x00 1", "\ufeff10.0.0.0/8 1",
		"10.0.0/8 1", "10.0.0.0.0/8 1", "10.0.0.256/8 1", "10.0.0.00/8 1", "10.0.0.01/8 1", "10/8 1", "::1.2.3.4/8 1", "fe80::%1/8 1", ":::/0 1", "1::2::/0 1", "1:2:3:4:5:6:7/0 1", "12345::/0 1", "g::/0 1", "[::]/0 1",
		"10.0.0.0/8 18446744073709551617", "10.0.0.0/18446744073709551624 1", strings.Repeat("1", 10000), "10.0.0.0/8 " + strings.Repeat("1", 10000), strings.Repeat("10.0.0.0/8 1 ", 1000), strings.Repeat("/", 10000), strings.Repeat(" ", 10000),
	} {
		good := "0.0.0.0/0 0\n"
		for _, s := range []string{line + "\n", line + "\n" + good, good + line + "\n", good + line + "\n::/0 0\n", "10.0.0.1/8 99\n" + line + "\n", line + "\n10.0.0.1/8 99\n", good + good + line + "\n"} {
			parsesNot(t, s, api.ErrBad)
		}
	}
}

// A text whose last line has no end is none, be it ever so right ahead of that.
func TestLineWithoutEnd(t *testing.T) {
	for _, s := range []string{"10.0.0.0/8 1", "10.0.0.0/8 1\n::/0 2", "10.0.0.0/8 1\n ", "10.0.0.0/8 1\n\x00", "10.0.0.1/8 1", "::/0 0\n::/0 0", "::/0 0\n::/0 0\n1"} {
		parsesNot(t, s, api.ErrBad)
	}
	for _, s := range []string{"\n\n", "10.0.0.0/8 1\n\n", "\n10.0.0.0/8 1\n", "10.0.0.0/8 1\n\n::/0 2\n", "10.0.0.0/8 1\r\n"} {
		parsesNot(t, s, api.ErrBad)
	}
}

// Every number from 0 to 999 is read, with and without noughts in front; which may be is asked behind.
func TestEachNumber(t *testing.T) {
	for n := range 1100 {
		s := strconv.Itoa(n)
		want := func(most int) api.Errno {
			switch {
			case n > 999:
				return api.ErrBad
			case n > most:
				return api.ErrArg
			}
			return api.OK
		}
		for _, c := range []struct {
			ahead, behind string
			most          int
		}{{"0.0.0.0/", " 0\n", 32}, {"::/", " 15\n", 128}, {"10.0.0.0/8 ", "\n", 15}, {"2001:db8::/32 ", "\n", 15}} {
			if e := bothParse(t, c.ahead+s+c.behind); e != want(c.most) {
				t.Errorf("P21.5: Parse(%q) = %d; want %d", c.ahead+s+c.behind, e, want(c.most))
			}
			parsesNot(t, c.ahead+"0"+s+c.behind, api.ErrBad)
			parsesNot(t, c.ahead+"00"+s+c.behind, api.ErrBad)
		}
	}
}

// Every form of an address that addr.Parse takes is one here.
func TestFormsOfAddresses(t *testing.T) {
	for _, s := range []string{"2001:db8::", "2001:DB8::", "2001:0db8::", "2001:dB8:0:0:0:0:0:0", "2001:db8:0:0::", "2001:db8::0", "2001:0DB8:0000:0000:0000:0000:0000:0000"} {
		parses(t, s+"/32 3\n", to(t, "2001:db8::", 32, 3))
		parsesNot(t, s+"/32 3\n2001:db8::/32 4\n", api.ErrArg)
	}
	parses(t, "::/0 0\n0.0.0.0/0 0\n", to(t, "::", 0, 0), to(t, "0.0.0.0", 0, 0))
	parses(t, "1:2:3:4:5:6:7::/112 0\n", to(t, "1:2:3:4:5:6:7:0", 112, 0))
	parses(t, "FFFF:FFFF:FFFF:FFFF:FFFF:FFFF:FFFF:FFFF/128 15\n", to(t, "ffff:ffff:ffff:ffff:ffff:ffff:ffff:ffff", 128, 15))
}

// lines are n lines of right form, each of which may be.
func lines(n int) string {
	var b strings.Builder
	for i := range n {
		b.WriteString("10." + strconv.Itoa(i>>8&255) + "." + strconv.Itoa(i&255) + ".0/24 " + strconv.Itoa(i%16) + "\n")
	}
	return b.String()
}

// At most 32 lines; with more of them the form is still asked of all.
func TestHowManyLines(t *testing.T) {
	for n := range 33 {
		if e := bothParse(t, lines(n)); e != api.OK {
			t.Errorf("P21.5: Parse of %d lines = %d", n, e)
		}
	}
	for _, n := range []int{33, 34, 35, 64, 65, 66, 1000, 60000} {
		parsesNot(t, lines(n), api.ErrArg)
		parsesNot(t, lines(n)+"x\n", api.ErrBad)
		parsesNot(t, lines(n)+"\n", api.ErrBad)
		parsesNot(t, lines(n)+"10.0.0.0/8 1", api.ErrBad)
		parsesNot(t, "10.0.0.0/8  1\n"+lines(n), api.ErrBad)
		parsesNot(t, strings.Repeat("::/0 0\n", n), api.ErrArg)
	}
	parsesNot(t, lines(31)+"10.0.0.0/24 0\n", api.ErrArg)
	parsesNot(t, lines(32)+"10.0.0.0/24 0\n", api.ErrArg)
}

// Each text that is one byte away from right ones is taken or refused as the form says.
func TestOneByteAway(t *testing.T) {
	var came [3]int
	for _, s := range []string{"10.0.0.0/8 1\n", "0.0.0.0/0 0\n::/0 15\n", "2001:db8::/32 3\n", "1:2:3:4:5:6:7:0/127 10\n", "128.0.0.0/1 9\n128.0.0.0/11 9\n"} {
		came[bothParse(t, s)]++
		for i := range len(s) {
			came[bothParse(t, s[:i]+s[i+1:])]++
			came[bothParse(t, s[:i])]++
			came[bothParse(t, s[i:])]++
			came[bothParse(t, s[:i]+s[i:i+1]+s[i:])]++
			if i > 0 {
				came[bothParse(t, s[:i-1]+s[i:i+1]+s[i-1:i]+s[i+1:])]++
			}
			for b := range 256 {
				came[bothParse(t, s[:i]+string([]byte{byte(b)})+s[i+1:])]++
				came[bothParse(t, s[:i]+string([]byte{byte(b)})+s[i:])]++
			}
		}
	}
	if min(came[api.OK], came[api.ErrArg]) < 100 || came[api.ErrBad] < 10000 {
		t.Errorf("too few of a kind: %v", came)
	}
}

// Every short text of the bytes that a line is made of, behind an address and alone.
func TestEachShortTail(t *testing.T) {
	var came [3]int
	tails := []string{""}
	for range 6 {
		var longer []string
		for _, s := range tails {
			for _, b := range []string{"0", "1", "9", "/", " ", "\n"} {
				longer = append(longer, s+b)
			}
		}
		for _, s := range longer {
			came[bothParse(t, s)]++
			came[bothParse(t, "::"+s)]++
			came[bothParse(t, "::/"+s)]++
		}
		tails = longer
	}
	if min(came[api.OK], came[api.ErrArg]) < 50 || came[api.ErrBad] < 10000 {
		t.Errorf("too few of a kind: %v", came)
	}
}

// word is a part of a line, mostly a right one.
func (s *source) word() string {
	l := []string{"10.0.0.0/8 1\n", "10.1.0.0/16 2\n", "0.0.0.0/0 0\n", "::/0 3\n", "2001:DB8::/32 15\n", "255.255.255.255/32 9\n", "ffff::/16 4\n", "0:0::/1 5\n",
		"10.0.0.1/8 1\n", "::/129 0\n", "1::/16 16\n", "0.0.0.0/0 00\n", "\n", "::", "/", " ", "8", "1\n", "0.0.0.0", "7.7.7.0/24 7\n", "7.7.0.0/16 7\n", "7.0.0.0/8 7\n"}
	if s.once(12) {
		return l[s.below(len(l))]
	}
	return l[s.below(8)]
}

// Texts of lines, some of them spoilt, are read as the model reads them.
func TestTextsAgainstModel(t *testing.T) {
	g := source(213)
	var came [3]int
	for range 40000 {
		var b strings.Builder
		for range g.below(5) {
			b.WriteString(g.word())
		}
		came[bothParse(t, b.String())]++
	}
	for range 3000 {
		s, _ := Print(g.right(1 + g.below(8)))
		for range g.below(3) {
			i := g.below(len(s))
			s = s[:i] + string("0123456789abcdefABCDEF:./ \n"[g.below(27)]) + s[i+g.below(2):]
		}
		came[bothParse(t, s)]++
	}
	if min(came[0], came[1], came[2]) < 2000 {
		t.Errorf("too few of a kind: %v", came)
	}
}
