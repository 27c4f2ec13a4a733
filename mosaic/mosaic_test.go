package mosaic

import (
	"runtime"
	"strings"
	"testing"
	"time"

	"mosaic/api"
)

// exampleText is the world of the document's ten examples: host 0 is 10.0.0.1, host 1 10.0.1.1, the router between them node 2.
const exampleText = "host\naddr 10.0.0.1\nroute 10.0.0.0 8 0\nhost\naddr 10.0.1.1\nroute 10.0.0.0 8 0\nhop\naddr 10.0.0.9\nroute 10.0.0.0 24 0\nroute 10.0.1.0 24 1\nlink 0 0 2 0 1500\nlink 1 0 2 1 576"

// text6 is a world of both versions: the router's second link is too small for one of them, and its third is not.
const text6 = `host
addr fd00::1
addr 10.0.0.1
route fd00:: 16 0
route 10.0.0.0 8 0
host
addr fd00:1::1
addr 10.0.1.1
route fd00:: 16 0
route 10.0.0.0 8 0
hop
addr fd00::9
addr 10.0.0.9
route fd00:: 32 0
route fd00:1:: 32 1
route 10.0.0.0 24 0
route 10.0.1.0 24 1
link 0 0 2 0 1500
link 1 0 2 1 1280
`

func opened(t *testing.T, text string) *World {
	t.Helper()
	w, n, e := Open(text)
	if w == nil || n != 0 || e != api.OK {
		t.Fatalf("P26.1: Open = %v, %d, %d", w, n, e)
	}
	t.Cleanup(w.Close)
	return w
}

// tells holds what lines tell against what is written behind their " => ", lines of it parted by "; ".
func tells(t *testing.T, w *World, script ...string) {
	t.Helper()
	for _, line := range script {
		do, want, _ := strings.Cut(line, " => ")
		want = strings.ReplaceAll(want, "; ", "\n") + "\n"
		if got, e := w.Do(do); e != api.OK || got != want {
			t.Fatalf("P26.1: %q tells %q, %d; want %q", brief(do), brief(got), e, brief(want))
		}
	}
}

// begins binds socket 1 of host 0 to 10.0.0.1 1000, and of host 1 the sockets 1, to any address, and 2, to 10.0.1.1, to 7.
func begins(t *testing.T, w *World) {
	t.Helper()
	tells(t, w, "bind 0 10.0.0.1 1000 => ok 1 1000", "bind 1 0.0.0.0 7 => ok 1 7", "bind 1 0.0.0.0 7 => no 200", "bind 1 10.0.1.1 7 => ok 2 7")
}

// brief is a text as a failure tells it.
func brief(s string) string {
	if len(s) > 400 {
		return s[:400] + ".."
	}
	return s
}

func TestExamples123(t *testing.T) {
	w := opened(t, exampleText)
	begins(t, w)
	tells(t, w,
		"send 0 1 10.0.1.1 7 :6869 => ok",
		"flight => ok 1; 2 v4 10.0.0.1 10.0.1.1 proto 17 ttl 64 id 0 data 10",
		"forward 0 => ok",
		"flight => ok 1; 1 v4 10.0.0.1 10.0.1.1 proto 17 ttl 63 id 0 data 10",
		"forward 0 => ok",
		"recv 1 2 => ok 10.0.0.1 1000 10.0.1.1 7 :6869",
		"recv 1 1 => no 220",
		"send 0 1 10.0.1.1 7 *1400 => ok",
		"flight => ok 1; 2 v4 10.0.0.1 10.0.1.1 proto 17 ttl 64 id 1 data 1408",
		"forward 0 => ok",
		"flight => ok 3; 1 v4 10.0.0.1 10.0.1.1 proto 17 ttl 63 id 1 more data 552; 1 v4 10.0.0.1 10.0.1.1 proto 17 ttl 63 id 1 off 552 more data 552; 1 v4 10.0.0.1 10.0.1.1 proto 17 ttl 63 id 1 off 1104 data 304",
		"forward 2 => ok",
		"state 1 => ok 2; socket 1 0; socket 2 0; entry 10.0.0.1 10.0.1.1 17 1; bytes 304",
		"forward 1 => ok",
		"forward 0 => ok",
		"flight => ok 0",
		"state 1 => ok 2; socket 1 0; socket 2 1; bytes 0",
		"recv 1 2 => ok 10.0.0.1 1000 10.0.1.1 7 *1400 11255",
		"recv 1 2 => no 220",
	)
}

func TestExamples45(t *testing.T) {
	w := opened(t, exampleText)
	begins(t, w)
	tells(t, w,
		"send 0 1 10.0.1.1 7 df *1400 => ok",
		"flight => ok 1; 2 v4 10.0.0.1 10.0.1.1 proto 17 ttl 64 id 0 df data 1408",
		"forward 0 => ok",
		"flight => ok 1; 0 v4 10.0.0.9 10.0.0.1 proto 1 ttl 64 id 0 data 36",
		"mtu 0 10.0.1.1 => ok 1500",
		"forward 0 => ok",
		"mtu 0 10.0.1.1 => ok 576",
		"send 0 1 10.0.1.1 7 df *1400 => no 100",
		"send 0 1 10.0.1.1 7 *1400 => ok",
		"flight => ok 3; 2 v4 10.0.0.1 10.0.1.1 proto 17 ttl 64 id 1 more data 552; 2 v4 10.0.0.1 10.0.1.1 proto 17 ttl 64 id 1 off 552 more data 552; 2 v4 10.0.0.1 10.0.1.1 proto 17 ttl 64 id 1 off 1104 data 304",
		"state 0 => ok 1; socket 1 0; bytes 0; path 10.0.1.1",
	)
}

// Example 6: what comes of a piece that is dropped, by whether the first one had come.
func TestExample6(t *testing.T) {
	for _, c := range []struct {
		drop         string
		state, after string
	}{
		{"drop 0", "ok 2; socket 1 0; socket 2 0; entry 10.0.0.1 10.0.1.1 17 0; bytes 856", "ok 0"},
		{"drop 1", "ok 2; socket 1 0; socket 2 0; entry 10.0.0.1 10.0.1.1 17 0; bytes 856", "ok 1; 2 v4 10.0.1.1 10.0.0.1 proto 1 ttl 64 id 0 data 36"},
		{"drop 2", "ok 2; socket 1 0; socket 2 0; entry 10.0.0.1 10.0.1.1 17 0; bytes 1104", "ok 1; 2 v4 10.0.1.1 10.0.0.1 proto 1 ttl 64 id 0 data 36"},
	} {
		w := opened(t, exampleText)
		begins(t, w)
		tells(t, w, "send 0 1 10.0.1.1 7 *1400 => ok", "forward 0 => ok", c.drop+" => ok", "run 10 => ok 2", "recv 1 2 => no 220", "state 1 => "+c.state)
		for range 59 {
			tells(t, w, "tick => ok", "flight => ok 0", "state 1 => "+c.state)
		}
		tells(t, w, "now => ok 59", "tick => ok", "now => ok 60", "state 1 => ok 2; socket 1 0; socket 2 0; bytes 0", "flight => "+c.after, "recv 1 2 => no 220")
	}
}

func TestExamples7To10(t *testing.T) {
	w := opened(t, exampleText)
	begins(t, w)
	tells(t, w,
		"send 0 1 10.0.1.2 7 :00 => ok",
		"forward 0 => ok",
		"flight => ok 1; 1 v4 10.0.0.1 10.0.1.2 proto 17 ttl 63 id 0 data 9",
		"forward 0 => ok",
		"flight => ok 0",
		"send 0 1 10.0.1.1 9 :00 => ok",
		"run 2 => ok 2",
		"flight => ok 1; 2 v4 10.0.1.1 10.0.0.1 proto 1 ttl 64 id 0 data 36",
		"forward 0 => ok",
		"flight => ok 1; 0 v4 10.0.1.1 10.0.0.1 proto 1 ttl 63 id 0 data 36",
		"forward 0 => ok",
		"flight => ok 0",
		"mtu 0 10.0.1.1 => ok 1500",
		"send 0 1 10.0.1.1 7 :6869 => ok",
		"twin 0 => ok",
		"flight => ok 2; 2 v4 10.0.0.1 10.0.1.1 proto 17 ttl 64 id 2 data 10; 2 v4 10.0.0.1 10.0.1.1 proto 17 ttl 64 id 2 data 10",
		"run 10 => ok 4",
		"recv 1 2 => ok 10.0.0.1 1000 10.0.1.1 7 :6869",
		"recv 1 2 => ok 10.0.0.1 1000 10.0.1.1 7 :6869",
		"recv 1 2 => no 220",
		"inject 1 :00 => ok",
		"flight => ok 1; 1 bytes 1",
		"forward 0 => ok",
		"flight => ok 0",
		"clear => ok yes",
	)
}

// P26.1: behind Close a command is refused, and every other line is answered as ever.
func TestClose(t *testing.T) {
	w := opened(t, exampleText)
	begins(t, w)
	for range 3 {
		w.Close()
		for _, c := range commands {
			if got, e := w.Do(c); got != "" || e != api.ErrArg {
				t.Errorf("P26.1: closed, %q tells %q, %d", c, got, e)
			}
		}
		for _, line := range []string{"", "  ", "# now"} {
			if got, e := w.Do(line); got != "" || e != api.OK {
				t.Errorf("P26.1: closed, %q tells %q, %d", line, got, e)
			}
		}
		for _, line := range []string{"frob", "now 0", "now\n", strings.Repeat(" ", 131201)} {
			if got, e := w.Do(line); got != "" || e != api.ErrLine {
				t.Errorf("P26.1: closed, %q tells %q, %d", brief(line), got, e)
			}
		}
	}
}

// P26.1: one world is closed, and another, of the same text, goes on.
func TestCloseOne(t *testing.T) {
	a, b := opened(t, exampleText), opened(t, exampleText)
	begins(t, a)
	tells(t, b, "flight => ok 0", "state 1 => ok 0; bytes 0", "bind 0 0.0.0.0 0 => ok 1 49152")
	a.Close()
	tells(t, b, "send 0 1 10.0.1.1 7 : => ok", "tick => ok", "now => ok 1", "flight => ok 1; 2 v4 10.0.0.1 10.0.1.1 proto 17 ttl 64 id 0 data 8")
}

// settles says whether as many goroutines run as did; one that has ended may be counted a little longer.
func settles(want int) bool {
	for range 1000 {
		if runtime.NumGoroutine() <= want {
			return true
		}
		time.Sleep(time.Millisecond)
	}
	return false
}

// P26.1: Close and Play leave no worker behind, whatever they were given.
func TestWorkers(t *testing.T) {
	was := runtime.NumGoroutine()
	for range 20 {
		w, _, _ := Open(exampleText)
		w.Do("send 0 1 10.0.1.1 7 *1400")
		w.Close()
		Open("host\nhost x")
		Open("host\nwindow 65")
		Play(exampleText, "bind 0 10.0.0.1 1000\nsend 0 1 10.0.1.1 7 *1400\nrun 1")
		Play(exampleText, "frob")
		Play("frob", "now")
		Play("host\nlife 1\nlink 0 0 1 0 1500", "now")
	}
	if !settles(was) {
		t.Errorf("P26.1: %d workers are left", runtime.NumGoroutine()-was)
	}
}
