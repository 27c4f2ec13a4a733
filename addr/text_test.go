package addr

import (
	"net/netip"
	"strings"
	"testing"

	"mosaic/api"
)

func TestParseTakes(t *testing.T) {
	for _, c := range []struct {
		text string
		a    api.Addr
		one  string
	}{
		{"192.0.2.1", v4(192, 0, 2, 1), "192.0.2.1"}, {"0.0.0.0", v4(0, 0, 0, 0), "0.0.0.0"}, {"255.255.255.255", v4(255, 255, 255, 255), "255.255.255.255"},
		{"9.10.99.100", v4(9, 10, 99, 100), "9.10.99.100"}, {"249.250.199.200", v4(249, 250, 199, 200), "249.250.199.200"},
		{"::", v6(0), "::"}, {"0:0:0:0:0:0:0:0", v6(0), "::"}, {"0::0", v6(0), "::"}, {"0000::", v6(0), "::"}, {"::0:0:0:0:0:0:0", v6(0), "::"},
		{"::1", v6(0, 0, 0, 0, 0, 0, 0, 1), "::1"}, {"1::", v6(1), "1::"}, {"1::8", v6(1, 0, 0, 0, 0, 0, 0, 8), "1::8"},
		{"1:2:3:4:5:6:7:8", v6(1, 2, 3, 4, 5, 6, 7, 8), "1:2:3:4:5:6:7:8"},
		{"1:2:3:4:5:6:7::", v6(1, 2, 3, 4, 5, 6, 7, 0), "1:2:3:4:5:6:7:0"}, {"::2:3:4:5:6:7:8", v6(0, 2, 3, 4, 5, 6, 7, 8), "0:2:3:4:5:6:7:8"}, {"1:2:3::5:6:7:8", v6(1, 2, 3, 0, 5, 6, 7, 8), "1:2:3:0:5:6:7:8"},
		{"2001:DB8::a", v6(0x2001, 0xdb8, 0, 0, 0, 0, 0, 10), "2001:db8::a"}, {"ABCD:EF01:0f0F::", v6(0xabcd, 0xef01, 0xf0f), "abcd:ef01:f0f::"}, {"aBcD::0", v6(0xabcd), "abcd::"},
		{"2001:db8:0:0:1:0:0:1", v6(0x2001, 0xdb8, 0, 0, 1, 0, 0, 1), "2001:db8::1:0:0:1"},
		{"2001:0:0:1:0:0:0:1", v6(0x2001, 0, 0, 1, 0, 0, 0, 1), "2001:0:0:1::1"}, {"2001:0:0:0:1:0:0:1", v6(0x2001, 0, 0, 0, 1, 0, 0, 1), "2001::1:0:0:1"},
		{"1:0:2:3:4:5:6:7", v6(1, 0, 2, 3, 4, 5, 6, 7), "1:0:2:3:4:5:6:7"}, {"0:0:2:3:4:5:6:7", v6(0, 0, 2, 3, 4, 5, 6, 7), "::2:3:4:5:6:7"}, {"1:2:3:4:5:6:0:0", v6(1, 2, 3, 4, 5, 6), "1:2:3:4:5:6::"},
		{"0:0:1:0:0:1:0:0", v6(0, 0, 1, 0, 0, 1), "::1:0:0:1:0:0"}, {"0:1:0:1:0:1:0:1", v6(0, 1, 0, 1, 0, 1, 0, 1), "0:1:0:1:0:1:0:1"},
		{"0:0:0:1:0:0:0:1", v6(0, 0, 0, 1, 0, 0, 0, 1), "::1:0:0:0:1"}, {"0:0:0:1:0:0:0:0", v6(0, 0, 0, 1), "0:0:0:1::"}, {"100:10:1000:0:f:f0:f00:f000", v6(0x100, 0x10, 0x1000, 0, 15, 0xf0, 0xf00, 0xf000), "100:10:1000:0:f:f0:f00:f000"},
		{"::ffff:102:304", v6(0, 0, 0, 0, 0, 0xffff, 0x102, 0x304), "::ffff:102:304"},
	} {
		a, e := Parse(c.text)
		if e != api.OK || a != c.a {
			t.Fatalf("P3.1: Parse(%q) = %v, %d", c.text, a, e)
		}
		if Print(a) != c.one {
			t.Fatalf("P3.2: Print of %q is %q, not %q", c.text, Print(a), c.one)
		}
	}
}

var wrongTexts = []string{
	"", " ", ".", "...", "1", "1.2", "192.0.2", "192.0.2.", "192.0.2.1.", ".192.0.2.1", "1..2.3", "1.2.3.4.5", "1.2.3.4.", "..1.2",
	"192.0.2.01", "192.0.2.00", "00.0.0.0", "000.0.0.0", "01.2.3.4", "192.0.2.256", "192.0.2.260", "192.0.2.300", "192.0.2.999", "1.2.3.0001", "1.2.3.1000", "1.2.3.4294967297", "1.2.3.18446744073709551617",
	" 192.0.2.1", "192.0.2.1 ", "1. 2.3.4", "+1.2.3.4", "-1.2.3.4", "1.2.3.-4", "1.2.3.a", "a.b.c.d", "0x1.2.3.4", "1,2,3,4", "1.2.3.4/8", "1.2.3.4\n", "1.2.3.4\x00", "1.2.3.\x80", "1.2.3./", "1_0.2.3.4", "１.2.3.4",
	":", ":::", "::::", "1:", ":1", "1:2", "1:2:3:4:5:6:7", "1:2:3:4:5:6:7:", ":1:2:3:4:5:6:7", ":2:3:4:5:6:7:8", "1:2:3:4:5:6:7:8:", ":1:2:3:4:5:6:7:8", "1:2:3:4:5:6:7:8:9",
	"1:2:3:4:5:6:7:8::", "::1:2:3:4:5:6:7:8", "1:2:3:4::5:6:7:8", "1:2:3:4:5:6:7:8:9::", "::1:2:3:4:5:6:7:8:9", "1::2::3", "::1::", "1:::2", ":::1", "1:::", "::1:", ":1::", "1::2:", "::::1",
	"12345::", "::12345", "::00001", "00000::", "1:2:3:4:5:6:7:00008", "::g", "g::", "::G", "::@", "::`", "::/", "::1.2.3.4", "1.2.3.4::", "::ffff:1.2.3.4", "1:2:3:4:5:6:1.2.3.4", "::1.", "1.2.3.4:",
	"fe80::1%2", "%::", "::1%", "::1 ", " ::1", ":: 1", "+1::", "-1::", "::+1", "::-1", "0x1::", "[::1]", "::1/64", "::1\n", "::\x00", "::\xff", "1:2:3:4:5:6:7: 8", "::a_b",
}

func TestParseRefuses(t *testing.T) {
	long := []string{strings.Repeat("1", 1<<20), strings.Repeat("1.", 1<<20), strings.Repeat(":", 1<<20), strings.Repeat("1:", 1<<20), strings.Repeat("0", 1<<20) + "::", "::" + strings.Repeat("1:", 1<<20) + "1", strings.Repeat("0", 1<<20) + ".0.0.0"}
	for _, s := range append(long, wrongTexts...) {
		if a, e := Parse(s); e != api.ErrText || a != (api.Addr{}) {
			t.Fatalf("P3.1: Parse(%.60q) = %v, %d", s, a, e)
		}
	}
}

// library reads a text by the library's package, which takes a little more than the document.
func library(s string) (api.Addr, bool) {
	n, err := netip.ParseAddr(s)
	if err != nil || n.Zone() != "" || strings.Contains(s, ":") && strings.Contains(s, ".") {
		return api.Addr{}, false
	}
	if n.Is4() {
		b := n.As4()
		return v4(b[0], b[1], b[2], b[3]), true
	}
	return api.Addr{V: 6, B: n.As16()}, true
}

const letters = "0123456789abcdefABCDEF::::....gG%+- /@`\x00\xff"

// spoilt is a text with a few of its bytes changed, left out or put in.
func (s *source) spoilt(text string) string {
	b := []byte(text)
	for range s.below(4) {
		at := s.below(len(b) + 1)
		c := letters[s.below(len(letters))]
		switch {
		case s.below(2) == 0 || at == len(b):
			b = append(b[:at], append([]byte{c}, b[at:]...)...)
		case s.below(2) == 0:
			b[at] = c
		default:
			b = append(b[:at], b[at+1:]...)
		}
	}
	return string(b)
}

func TestParseAsTheLibrary(t *testing.T) {
	s := source(35)
	var taken, refused [2]int
	for i := range 200000 {
		text := wrongTexts[s.below(len(wrongTexts))]
		if i%4 != 0 {
			text = Print(s.address())
		}
		text = s.spoilt(text)
		want, ok := library(text)
		a, e := Parse(text)
		if (e == api.OK) != ok || a != want || !ok && e != api.ErrText {
			t.Fatalf("P3.1: Parse(%q) = %v, %d, not %v", text, a, e, want)
		}
		six := min(strings.Count(text, ":"), 1)
		if ok {
			taken[six]++
		} else {
			refused[six]++
		}
	}
	for six := range 2 {
		if taken[six] < 1000 || refused[six] < 1000 {
			t.Fatalf("the texts try too little: %v taken, %v refused", taken, refused)
		}
	}
}

// short is the text with the groups from i to j as "::".
func short(parts []string, i, j int) string {
	return strings.Join(parts[:i], ":") + "::" + strings.Join(parts[j:], ":")
}

// texts are ways to write an address of V 6: in full with some noughts and cases, and with each run of noughts left out.
func (s *source) texts(a api.Addr) []string {
	const small, great = "0123456789abcdef", "0123456789ABCDEF"
	parts := make([]string, 8)
	for i := range parts {
		p := ""
		for k := range 4 {
			d := a.B[2*i+k/2] >> (4 * (1 - k%2)) & 15
			p += string([]string{small, great}[s.below(2)][d])
		}
		for len(p) > 1 && p[0] == '0' && s.below(3) > 0 {
			p = p[1:]
		}
		parts[i] = p
	}
	list := []string{strings.Join(parts, ":")}
	for i := range parts {
		for j := i + 1; j <= 8 && strings.Trim(parts[j-1], "0") == ""; j++ {
			list = append(list, short(parts, i, j))
		}
	}
	return list
}

func TestThereAndBack(t *testing.T) {
	s := source(36)
	for range 20000 {
		a := s.address()
		text := Print(a)
		if !isAddress(a) {
			if text != "" {
				t.Fatalf("P3.1: Print(%v) = %q", a, text)
			}
			continue
		}
		if b, e := Parse(text); b != a || e != api.OK {
			t.Fatalf("P3.2: Parse(Print(%v)) = Parse(%q) = %v, %d", a, text, b, e)
		}
		if a.V == 4 {
			continue
		}
		for _, other := range s.texts(a) {
			if b, e := Parse(other); b != a || e != api.OK || Print(b) != text {
				t.Fatalf("P3.2: Parse(%q) = %v, %d, not %v", other, b, e, a)
			}
		}
		for _, cased := range []string{strings.ToUpper(text), strings.ToLower(text)} {
			if b, e := Parse(cased); b != a || e != api.OK {
				t.Fatalf("P3.2: Parse(%q) = %v, %d, not %v", cased, b, e, a)
			}
		}
	}
}

// printed is the document's Print by trial: of all runs the longest, of those the first.
func printed(a api.Addr) string {
	if a.V == 4 {
		return netip.AddrFrom4([4]byte(a.B[:4])).String()
	}
	parts := make([]string, 8)
	for i := range parts {
		const digits = "0123456789abcdef"
		all := string([]byte{digits[a.B[2*i]>>4], digits[a.B[2*i]&15], digits[a.B[2*i+1]>>4], digits[a.B[2*i+1]&15]})
		parts[i] = strings.TrimLeft(all[:3], "0") + all[3:]
	}
	for n := 8; n >= 2; n-- {
		for i := 0; i+n <= 8; i++ {
			if [16]byte(append(make([]byte, 16-2*n), a.B[2*i:2*i+2*n]...)) == [16]byte{} {
				return short(parts, i, i+n)
			}
		}
	}
	return strings.Join(parts, ":")
}

func TestPrint(t *testing.T) {
	// Every pattern of groups that are 0 and that are not.
	for pattern := range 256 {
		a := api.Addr{V: 6}
		for i := range 8 {
			if pattern>>i&1 == 1 {
				a.B[2*i+i%2] = byte(1 + 37*i)
			}
		}
		if Print(a) != printed(a) {
			t.Fatalf("P3.1: Print(%v) = %q, not %q", a, Print(a), printed(a))
		}
	}
	s := source(37)
	for range 20000 {
		if a := s.address(); isAddress(a) && Print(a) != printed(a) {
			t.Fatalf("P3.1: Print(%v) = %q, not %q", a, Print(a), printed(a))
		}
	}
}
