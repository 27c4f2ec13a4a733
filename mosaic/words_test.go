package mosaic

import (
	"fmt"
	"strings"
	"testing"

	"mosaic/api"
)

// commands are one of each form.
var commands = []string{
	"bind 0 10.0.0.1 1000", "shut 0 1", "send 0 1 10.0.1.1 7 :00", "send 0 1 10.0.1.1 7 *9", "send 0 1 10.0.1.1 7 df :", "send 0 1 10.0.1.1 7 nosum :", "send 0 1 10.0.1.1 7 opts=: :", "send 0 1 10.0.1.1 7 df nosum opts=:01010101 *1",
	"send 0 1 10.0.1.1 7 df nosum :", "send 0 1 10.0.1.1 7 df opts=:00000000 :", "send 0 1 10.0.1.1 7 nosum opts=:00000000 :", "recv 0 1", "mtu 0 10.0.1.1", "mtu 0 ::1", "forward 0", "drop 0", "twin 0", "swap 0 0", "spoil 0 0 1", "inject 0 :00", "inject 0 *0", "recut 0 68", "tick", "run 0", "flight", "state 0", "clear", "now",
}

// isLine and isNone say whether a line is a command, by all who read lines.
func isLine(t *testing.T, line string, want api.Errno) {
	t.Helper()
	w := opened(t, exampleText)
	defer w.Close()
	begins(t, w)
	was := all(t, w)
	n, e := Check("now\n" + line + "\nnow")
	got, e2 := w.Do(line)
	if want == api.OK {
		if n != 0 || e != api.OK || e2 != api.OK || got != "" && !strings.HasSuffix(got, "\n") {
			t.Errorf("P26.1: %q: Check = %d, %d; Do = %q, %d; it is a command", brief(line), n, e, brief(got), e2)
		}
		return
	}
	if n != 2 || e != api.ErrLine {
		t.Errorf("P26.1: %q: Check = %d, %d; it is no command", brief(line), n, e)
	}
	if got != "" || e2 != api.ErrLine {
		t.Errorf("P26.1: %q: Do = %q, %d; it is no command", brief(line), brief(got), e2)
	}
	if is := all(t, w); is != was {
		t.Errorf("P26.3: %q has changed\n%s to\n%s", brief(line), was, is)
	}
}

func isNone(t *testing.T, lines ...string) {
	t.Helper()
	for _, line := range lines {
		isLine(t, line, api.ErrLine)
	}
}

func isCommand(t *testing.T, lines ...string) {
	t.Helper()
	for _, line := range lines {
		isLine(t, line, api.OK)
	}
}

// all is all that a world tells of itself.
func all(t *testing.T, w *World) string {
	t.Helper()
	var l []string
	for _, line := range []string{"flight", "state 0", "state 1", "state 2", "state 3", "clear", "now", "mtu 0 10.0.1.1", "mtu 1 10.0.0.1", "mtu 0 fd00:1::1", "mtu 1 fd00::1"} {
		got, e := w.Do(line)
		if e != api.OK {
			t.Fatalf("P26.1: %q tells %q, %d", line, got, e)
		}
		l = append(l, got)
	}
	return strings.Join(l, "")
}

// P26.1: each form; with a word less or more it is none, nor with a word in other letters.
func TestForms(t *testing.T) {
	isCommand(t, commands...)
	for _, line := range commands {
		words := strings.Split(line, " ")
		isNone(t, line+" 0", line+" x", line+" :00", line+" "+line, "0 "+line, strings.ToUpper(line[:1])+line[1:], " x"+line, line+"x y")
		if !strings.Contains(line, ":00") {
			isNone(t, line+"\r", line+"\v", line+"\x00", line+"\u00a0", line+"\u2003", line+"\xff")
		}
		for i := range words {
			less := strings.Join(append(append([]string(nil), words[:i]...), words[i+1:]...), " ")
			switch {
			case less == "", words[i] == "df", words[i] == "nosum", strings.HasPrefix(words[i], "opts="):
				continue
			}
			isNone(t, less)
		}
	}
	isNone(t, "host", "hop", "addr 10.0.0.1", "route 10.0.0.0 8 0", "quota 1 1 1 1", "paths 1 1", "window 1", "queue 1 1", "sockets 1", "life 1", "link 0 0 1 0 1500", "forwards 0", "forwar 0", "no", "ok", "yes", "n ow", "no w")
}

// P26.1: a number is one to ten decimal digits.
func TestNumbers(t *testing.T) {
	for _, line := range []string{"bind %s 10.0.0.1 7", "bind 0 10.0.0.1 %s", "shut %s 0", "shut 0 %s", "send %s 1 10.0.1.1 7 :", "send 0 %s 10.0.1.1 7 :", "send 0 1 10.0.1.1 %s :", "recv %s 0", "recv 0 %s", "mtu %s 10.0.1.1", "forward %s", "drop %s", "twin %s", "swap %s 0", "swap 0 %s", "spoil %s 0 1", "spoil 0 %s 1", "spoil 0 0 %s", "inject %s :", "recut %s 68", "recut 0 %s", "run %s", "state %s"} {
		for _, n := range []string{"0", "9", "00", "007", "0000000000", "0000000001", "2147483648", "4294967296", "9999999999"} {
			isCommand(t, fmt.Sprintf(line, n))
		}
		for _, n := range []string{"-", "-1", "+1", "-0", "0x1", "1_0", "1.", "1.0", "1e1", "a", "f", "00000000000", "12345678901", "18446744073709551616", "/", ":", "1:", ":1", "*1", "٣", "1\x00", "\"1\""} {
			isNone(t, fmt.Sprintf(line, n))
		}
	}
	w := opened(t, exampleText)
	tells(t, w, "bind 0000000000 10.0.0.1 0000001000 => ok 1 1000", "bind 4294967296 10.0.0.1 7 => no 240", "bind 0 10.0.0.1 4294967303 => no 1", "state 4294967296 => no 240", "shut 0 4294967297 => no 1", "inject 4294967296 : => no 240",
		"inject 0 : => ok", "forward 4294967296 => no 240", "spoil 0 0 1 => no 1", "swap 0 4294967296 => no 240", "run 4294967296 => ok 1")
}

// P26.1: an address is what addr takes.
func TestAddresses(t *testing.T) {
	for _, line := range []string{"bind 0 %s 7", "send 0 1 %s 7 :", "mtu 0 %s"} {
		for _, a := range []string{"0.0.0.0", "255.255.255.255", "127.0.0.1", "::", "::1", "FD00:0:0::1", "1:2:3:4:5:6:7:8", "ff02::1", "1::"} {
			isCommand(t, fmt.Sprintf(line, a))
		}
		for _, a := range []string{"10.0.0", "10.0.0.0.1", "10.0.0.01", "10.0.0.256", "10.0.0.1/8", "10", "", ":", ":::", "1:2:3:4:5:6:7", "fd00::1::2", "fd00::g", "::10.0.0.1", "localhost", "fd00::1%0", "10.0.0.-1"} {
			isNone(t, fmt.Sprintf(line, a))
		}
	}
	w := opened(t, text6)
	tells(t, w, "bind 0 FD00:0:0::1 7 => ok 1 7", "bind 0 fd00::1 7 => no 200", "bind 0 fd00::2 7 => no 1", "bind 0 0:0::0 7 => ok 2 7", "mtu 0 fd00:1:0:0:0:0:0:1 => ok 1500", "mtu 1 fd00::1 => ok 1280", "mtu 0 fe00::1 => no 210", "mtu 2 fd00::1 => no 240")
}

// P26.1: bytes are told digit by digit, or by their number alone.
func TestBytes(t *testing.T) {
	for _, line := range []string{"send 0 1 10.0.1.1 7 %s", "inject 1 %s"} {
		for _, b := range []string{":", ":00", ":0123456789abcdef", ":ff00ff", "*0", "*00", "*1", "*70000", "*0000070000", "*9"} {
			isCommand(t, fmt.Sprintf(line, b))
		}
		for _, b := range []string{":0", ":000", ":0g", ":g0", ":0A", ":AB", ":F0", ":0/", ":0:", ":-1", ": 00", ":0x00", "::", "::00", ":*1", "00", "0", "*", "**", "**1", "*70001", "*99999", "*0000070001", "*00000070000", "*9999999999", "*-1", "*+1", "*1a", "*a", "* 1", "*:00", "*1*1", ":٣٣"} {
			isNone(t, fmt.Sprintf(line, b))
		}
	}
	for n := range 256 {
		w := opened(t, exampleText)
		begins(t, w)
		tells(t, w, fmt.Sprintf("send 0 1 10.0.1.1 7 :%02x61%02x => ok", n, 255-n), "run 2 => ok 2", fmt.Sprintf("recv 1 2 => ok 10.0.0.1 1000 10.0.1.1 7 :%02x61%02x", n, 255-n))
		w.Close()
	}
	w := opened(t, exampleText)
	begins(t, w)
	for _, n := range []int{0, 1, 2, 63, 64} {
		want := ":"
		for i := range n {
			want += fmt.Sprintf("%02x", i)
		}
		tells(t, w, fmt.Sprintf("send 0 1 10.0.1.1 7 *%d => ok", n), "run 2 => ok 2", "recv 1 2 => ok 10.0.0.1 1000 10.0.1.1 7 "+want)
	}
	for _, n := range []int{65, 250, 251, 252, 253, 502, 503, 520} {
		tells(t, w, fmt.Sprintf("send 0 1 10.0.1.1 7 *%d => ok", n), "run 2 => ok 2", fmt.Sprintf("recv 1 2 => ok 10.0.0.1 1000 10.0.1.1 7 *%d %d", n, sumOf(pattern251(n))))
	}
	tells(t, w, "send 0 1 10.0.1.1 7 *65507 => ok", "run 1000 => ok 178", fmt.Sprintf("recv 1 2 => ok 10.0.0.1 1000 10.0.1.1 7 *65507 %d", sumOf(pattern251(65507))), "send 0 1 10.0.1.1 7 *65508 => no 3", "send 0 1 10.0.1.1 7 *70000 => no 3",
		"inject 1 *65575 => ok", "flight => ok 1; 1 bytes 65575", "inject 1 *65576 => no 3", "inject 1 *70000 => no 3")
}

// pattern251 are n bytes, the i-th of which is i mod 251.
func pattern251(n int) []byte {
	var b []byte
	for len(b) < n {
		b = append(b, byte(len(b)%251))
	}
	return b
}

// sumOf is the one's complement sum of bytes, word by word.
func sumOf(b []byte) int {
	n := 0
	for i, c := range b {
		if i%2 == 0 {
			n += int(c) * 256
		} else {
			n += int(c)
		}
		for n > 65535 {
			n = n%65536 + n/65536
		}
	}
	return n
}

// P26.1: sums of all kinds, where the data is longer than what is told digit by digit.
func TestSums(t *testing.T) {
	w := opened(t, exampleText)
	begins(t, w)
	for _, c := range []struct{ hex, want string }{
		{strings.Repeat("00", 65), "*65 0"},
		{strings.Repeat("ff", 66), "*66 65535"},
		{strings.Repeat("00", 64) + "01", "*65 256"},
		{strings.Repeat("00", 65) + "01", "*66 1"},
		{strings.Repeat("ff", 65), "*65 65280"},
	} {
		tells(t, w, "send 0 1 10.0.1.1 7 :"+c.hex+" => ok", "run 2 => ok 2", "recv 1 2 => ok 10.0.0.1 1000 10.0.1.1 7 "+c.want)
	}
	tells(t, w, "send 0 1 10.0.1.1 7 :"+strings.Repeat("ff", 64)+" => ok", "run 2 => ok 2", "recv 1 2 => ok 10.0.0.1 1000 10.0.1.1 7 :"+strings.Repeat("ff", 64))
}

// P26.1: the words of a send that may be left out stand in their order, once each.
func TestFlags(t *testing.T) {
	isNone(t, "send 0 1 10.0.1.1 7 nosum df :", "send 0 1 10.0.1.1 7 opts=: df :", "send 0 1 10.0.1.1 7 opts=: nosum :", "send 0 1 10.0.1.1 7 df df :", "send 0 1 10.0.1.1 7 nosum nosum :", "send 0 1 10.0.1.1 7 opts=: opts=: :", "send 0 1 10.0.1.1 7 DF :", "send 0 1 10.0.1.1 7 : df",
		"send 0 1 10.0.1.1 7 df", "send 0 1 10.0.1.1 7 df nosum", "send 0 1 10.0.1.1 7 opts=:", "send 0 1 10.0.1.1 7 opts= :", "send 0 1 10.0.1.1 7 opts :", "send 0 1 10.0.1.1 7 opts=*4 :", "send 0 1 10.0.1.1 7 opts=00 :", "send 0 1 10.0.1.1 7 opts=:0 :", "send 0 1 10.0.1.1 7 opts=:0G :", "send 0 1 10.0.1.1 7 opts=::00 :", "send 0 1 10.0.1.1 7 opts=:00",
		"send 0 1 df 10.0.1.1 7 :", "send 0 1 10.0.1.1 df 7 :", "send df 0 1 10.0.1.1 7 :", "send 0 1 10.0.1.1 7 opts= :00", "send 0 1 10.0.1.1 7 d f :", "send 0 1 10.0.1.1 7 dfnosum :")
	w := opened(t, exampleText)
	begins(t, w)
	tells(t, w, "send 0 1 10.0.1.1 7 df : => ok", "send 0 1 10.0.1.1 7 : => ok", "send 0 1 10.0.1.1 7 opts=:9404000007040400 :01 => ok", "send 0 1 10.0.1.1 7 opts=: : => ok", "send 0 1 10.0.1.1 7 opts=:01 : => no 40", "send 0 1 10.0.1.1 7 df nosum opts=:01010101 :02 => ok",
		"flight => ok 5; 2 v4 10.0.0.1 10.0.1.1 proto 17 ttl 64 id 0 df data 8; 2 v4 10.0.0.1 10.0.1.1 proto 17 ttl 64 id 1 data 8; 2 v4 10.0.0.1 10.0.1.1 proto 17 ttl 64 id 2 data 9; 2 v4 10.0.0.1 10.0.1.1 proto 17 ttl 64 id 3 data 8; 2 v4 10.0.0.1 10.0.1.1 proto 17 ttl 64 id 4 df data 9")
	l := w.beneath.Flight()
	for k, want := range []string{"", "", "\x94\x04\x00\x00\x07\x04\x04\x00", "", "\x01\x01\x01\x01"} {
		head := 20 + len(want)
		b := l[k].Bytes
		if string(b[20:head]) != want || (b[head+6]|b[head+7] == 0) != (k == 4) {
			t.Errorf("P26.1: the packet %d is %x", k, b)
		}
	}
	tells(t, w, "run 100 => ok 10", "state 1 => ok 2; socket 1 0; socket 2 5; bytes 0")
}

// P26.1: lines as long as may be, and longer; what has a byte 10 is none.
func TestLongLines(t *testing.T) {
	const most = 131200
	w := opened(t, exampleText)
	for _, c := range []struct{ line, want string }{
		{"now" + strings.Repeat(" ", most-3), "ok 0\n"}, {strings.Repeat("\t", most-3) + "now", "ok 0\n"}, {"now#" + strings.Repeat("x", most-4), "ok 0\n"}, {strings.Repeat(" ", most), ""}, {"#" + strings.Repeat("\xff", most-1), ""},
		{"inject 0 :" + strings.Repeat("00", 65575), "ok\n"}, {"inject 0 :" + strings.Repeat("00", (most-10)/2), "no 3\n"},
	} {
		if got, e := w.Do(c.line); got != c.want || e != api.OK {
			t.Errorf("P26.1: a line of %d bytes, %q, tells %q, %d", len(c.line), c.line[:12], got, e)
		}
		if n, e := Check(c.line); n != 0 || e != api.OK {
			t.Errorf("P26.1: a line of %d bytes, %q: Check = %d, %d", len(c.line), c.line[:12], n, e)
		}
	}
	was := all(t, w)
	for _, line := range []string{"now" + strings.Repeat(" ", most-2), "now#" + strings.Repeat("x", most-3), strings.Repeat(" ", most+1), "#" + strings.Repeat("x", most), "tick#" + strings.Repeat("x", most-4), "inject 0 :" + strings.Repeat("00", 65596), strings.Repeat("x", most), "inject 0 " + strings.Repeat("0", most-9), strings.Repeat("now ", most/4)} {
		if got, e := w.Do(line); got != "" || e != api.ErrLine {
			t.Errorf("P26.1: a line of %d bytes, %q, tells %q, %d", len(line), line[:12], brief(got), e)
		}
		if n, e := Check("\n" + line); n != 2 || e != api.ErrLine {
			t.Errorf("P26.1: a line of %d bytes, %q: Check = %d, %d", len(line), line[:12], n, e)
		}
	}
	for _, line := range []string{"\n", "tick\n", "\ntick", "tick\ntick", "#\n", "tick#\n", "# x\ntick", " \n ", "tick \n", "inject 0 :\n"} {
		if got, e := w.Do(line); got != "" || e != api.ErrLine {
			t.Errorf("P26.1: %q tells %q, %d", line, got, e)
		}
	}
	if is := all(t, w); is != was {
		t.Errorf("P26.3: lines that are none have changed\n%s to\n%s", was, is)
	}
}

// P26.1: a line is one from its front to the first "#", in a word too.
func TestRemarks(t *testing.T) {
	w := opened(t, exampleText)
	begins(t, w)
	tells(t, w, "now# tick => ok 0", "now #tick => ok 0", "now # # now => ok 0", "now##\xff\x00 => ok 0", "\t now \t\t => ok 0", "tick\t# => ok", "bind 0 10.0.0.1 10#00 => ok 2 10", "send 0 1 10.0.1.1 7 :00#00 => ok", "flight#1 => ok 1; 2 v4 10.0.0.1 10.0.1.1 proto 17 ttl 64 id 0 data 9", "run 0#00 => ok 0")
	isNone(t, "bind 0 10.0.0.1#7", "bind#", "send 0 1 10.0.1.1 7 :0#0", "forward #0", "sw#ap 0 0", "x#", "x # now")
	for _, line := range []string{"", "#", " ", "\t", " \t #", "##", "#now", " # tick", "#\r"} {
		if got, e := w.Do(line); got != "" || e != api.OK {
			t.Errorf("P26.1: %q tells %q, %d", line, got, e)
		}
	}
	tells(t, w, "now => ok 1")
}

// P26.1: scripts as long as may be, and longer; the first line that is none is told.
func TestCheck(t *testing.T) {
	block := strings.Repeat("#", 65535) + "\n"
	for _, c := range []struct {
		what, script string
		n            int
		e            api.Errno
	}{
		{"none", "", 0, api.OK}, {"an empty line", "\n", 0, api.OK}, {"one", "now", 0, api.OK}, {"one with its end", "now\n", 0, api.OK}, {"remarks", "#\n\n \t\n#x", 0, api.OK}, {"a bad one", "frob", 1, api.ErrLine}, {"a bad one with its end", "frob\n", 1, api.ErrLine},
		{"the second", "now\nfrob\nfrob", 2, api.ErrLine}, {"the third", "\n#\nfrob", 3, api.ErrLine}, {"behind all", "now\n\n\n\nnow\nx", 6, api.ErrLine}, {"a return", "now\r\nnow", 1, api.ErrLine}, {"a world's", "now\nhost", 2, api.ErrLine},
		{"4096 lines", strings.Repeat("\n", 4096), 0, api.OK}, {"4096 lines without the last end", strings.Repeat("now\n", 4095) + "now", 0, api.OK}, {"4096 lines with the last end", strings.Repeat("now\n", 4095) + "now\n", 0, api.OK},
		{"4097 lines", strings.Repeat("\n", 4097), 1, api.ErrLine}, {"4097 lines without the last end", strings.Repeat("\n", 4096) + "#", 1, api.ErrLine}, {"4097 lines, one of them bad", strings.Repeat("\n", 4096) + "frob", 1, api.ErrLine}, {"a blank as the line 4097", strings.Repeat("\n", 4096) + " ", 1, api.ErrLine},
		{"the line 4096", strings.Repeat("\n", 4095) + "frob", 4096, api.ErrLine}, {"262144 bytes", strings.Repeat(block, 4), 0, api.OK}, {"262144 bytes, a bad line", strings.Repeat(block, 3) + "x" + block[1:], 4, api.ErrLine}, {"262145 bytes", strings.Repeat(block, 4) + "#", 1, api.ErrLine}, {"262145 bytes of a bad line", strings.Repeat("x", 262145), 1, api.ErrLine},
		{"262144 bytes of a line", "\n" + strings.Repeat("#", 262143), 2, api.ErrLine}, {"two long lines", strings.Repeat("#", 131071) + "\n" + strings.Repeat(" ", 131072), 0, api.OK}, {"a line too long", "now\n\n" + strings.Repeat(" ", 131201) + "\n", 3, api.ErrLine}, {"a bad line ahead of a long one", "x\n" + strings.Repeat(" ", 131201), 1, api.ErrLine},
		{"commands", strings.Join(commands, "\n"), 0, api.OK},
	} {
		if n, e := Check(c.script); n != c.n || e != c.e {
			t.Errorf("P26.1: Check of %s = %d, %d; want %d, %d", c.what, n, e, c.n, c.e)
		}
		want := c.e
		if got, e := Play(exampleText, c.script); e != want || e != api.OK && got != "" {
			t.Errorf("P26.2: Play of %s = %q, %d; want %d", c.what, brief(got), e, want)
		}
	}
}
