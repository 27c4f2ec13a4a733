package mosaic

import (
	"bytes"
	"fmt"
	"strings"
	"testing"

	"mosaic/addr"
	"mosaic/api"
	"mosaic/ip4"
	"mosaic/ip6"
)

func laid(t *testing.T, p api.Packet) []byte {
	t.Helper()
	b, e := ip4.Build(p)
	if p.V == 6 {
		b, e = ip6.Build(p)
	}
	if e != api.OK {
		t.Fatalf("%+v is not right", p)
	}
	return b
}

// lineOf is the line of a right packet, by the chapter's words.
func lineOf(p api.Packet) string {
	s := fmt.Sprintf("v%d %s %s proto %d ttl %d", p.V, addr.Print(p.Src), addr.Print(p.Dst), p.Proto, p.TTL)
	if p.V == 4 {
		s += fmt.Sprintf(" id %d", p.ID)
	}
	if p.DF {
		s += " df"
	}
	if p.Frag {
		s += fmt.Sprintf(" frag %d", p.ID)
	}
	if p.Off > 0 {
		s += fmt.Sprintf(" off %d", p.Off)
	}
	if p.More {
		s += " more"
	}
	return s + fmt.Sprintf(" data %d", len(p.Data))
}

func TestTell(t *testing.T) {
	a, b := address(t, "10.0.0.1"), address(t, "255.255.255.255")
	c, d := address(t, "fd00::1"), address(t, "::")
	for _, x := range []struct {
		p    api.Packet
		want string
	}{
		{api.Packet{V: 4, Src: a, Dst: b}, "v4 10.0.0.1 255.255.255.255 proto 0 ttl 0 id 0 data 0"},
		{api.Packet{V: 4, TOS: 255, Src: b, Dst: a, Proto: 255, TTL: 255, ID: 65535, DF: true, Off: 65528, Opts: []byte{1, 1, 1, 1}, Data: make([]byte, 7)}, "v4 255.255.255.255 10.0.0.1 proto 255 ttl 255 id 65535 df off 65528 data 7"},
		{api.Packet{V: 4, Src: a, Dst: b, More: true, Data: make([]byte, 8)}, "v4 10.0.0.1 255.255.255.255 proto 0 ttl 0 id 0 more data 8"},
		{api.Packet{V: 4, Src: a, Dst: b, DF: true, Off: 8, More: true, Data: make([]byte, 16)}, "v4 10.0.0.1 255.255.255.255 proto 0 ttl 0 id 0 df off 8 more data 16"},
		{api.Packet{V: 4, Src: a, Dst: b, Data: make([]byte, 65515)}, "v4 10.0.0.1 255.255.255.255 proto 0 ttl 0 id 0 data 65515"},
		{api.Packet{V: 6, TOS: 255, Flow: 1<<20 - 1, Src: c, Dst: d}, "v6 fd00::1 :: proto 0 ttl 0 data 0"},
		{api.Packet{V: 6, Src: d, Dst: c, Proto: 58, TTL: 255, Frag: true}, "v6 :: fd00::1 proto 58 ttl 255 frag 0 data 0"},
		{api.Packet{V: 6, Src: c, Dst: d, Frag: true, ID: 4294967295, Off: 8, More: true, Data: make([]byte, 8)}, "v6 fd00::1 :: proto 0 ttl 0 frag 4294967295 off 8 more data 8"},
		{api.Packet{V: 6, Src: c, Dst: d, Frag: true, ID: 1, More: true, Data: make([]byte, 8)}, "v6 fd00::1 :: proto 0 ttl 0 frag 1 more data 8"},
		{api.Packet{V: 6, Src: c, Dst: d, Frag: true, ID: 1, Off: 65528, Data: make([]byte, 1)}, "v6 fd00::1 :: proto 0 ttl 0 frag 1 off 65528 data 1"},
		{api.Packet{V: 6, Src: c, Dst: d, Data: make([]byte, 65535)}, "v6 fd00::1 :: proto 0 ttl 0 data 65535"},
	} {
		l := laid(t, x.p)
		if got := Tell(l); got != x.want || x.want != lineOf(x.p) {
			t.Errorf("P26.1: Tell(%x) = %q, want %q", brief(string(l)), got, x.want)
		}
		for _, n := range []int{0, 1, 19, 20, 39, 40, len(l) - 1} {
			if want := fmt.Sprint("bytes ", n); n < len(l) && Tell(l[:n]) != want {
				t.Errorf("P26.1: of %q the first %d: %q", x.want, n, Tell(l[:n]))
			}
		}
		if got := Tell(append(l, 0)); got != fmt.Sprint("bytes ", len(l)+1) {
			t.Errorf("P26.1: of %q and one more: %q", x.want, got)
		}
	}
	for _, x := range [][]byte{nil, {}, {0x45}, {0x60}, make([]byte, 20), make([]byte, 40), make([]byte, 65575), make([]byte, 70000)} {
		if got := Tell(x); got != fmt.Sprint("bytes ", len(x)) {
			t.Errorf("P26.1: Tell of %d bytes = %q", len(x), got)
		}
	}
}

func (s *source) packet() api.Packet {
	p := api.Packet{V: 4, TOS: s.below(256), Proto: pick(s, 17, 1, 58, 0, s.below(256)), TTL: s.below(256), ID: uint32(s.below(65536)), DF: s.once(2)}
	p.Src, p.Dst = api.Addr{V: 4}, api.Addr{V: 4}
	n := 4
	if s.once(2) {
		p.V, p.Src.V, p.Dst.V, n, p.DF, p.ID = 6, 6, 6, 16, false, 0
		p.Flow, p.Frag = s.below(1<<20), s.once(2)
		if p.Proto == api.ProtoFrag {
			p.Proto = 17
		}
		if p.Frag {
			p.ID = uint32(s.next() >> 9)
		}
	} else if s.once(3) {
		p.Opts = pick(s, []byte{1, 1, 1, 1}, []byte{0x94, 4, 0, 0}, []byte{7, 7, 4, 1, 2, 3, 4, 0})
	}
	copy(p.Src.B[:n], s.bytes(n))
	copy(p.Dst.B[:n], s.bytes(n))
	if p.V == 4 || p.Frag {
		p.More, p.Off = s.once(2), 8*pick(s, 0, 0, 1, 69, s.below(8000))
	}
	p.Data = s.bytes(8 * (1 + s.below(20)))
	if !p.More {
		p.Data = append(p.Data, s.bytes(s.below(8))...)
	}
	return p
}

// P26.1: Tell of packets of all kinds, and of bytes that are nearly one; what is handed in stays as it is.
func TestTellMany(t *testing.T) {
	g := source(2601)
	for range 20000 {
		p := g.packet()
		b := laid(t, p)
		was := bytes.Clone(b)
		if got := Tell(b); got != lineOf(p) {
			t.Fatalf("P26.1: Tell(%x) = %q, want %q", b, got, lineOf(p))
		}
		if !bytes.Equal(b, was) {
			t.Fatal("P26.1: Tell has changed what it was handed")
		}
		for range g.below(4) {
			b[g.below(min(len(b), 50))] ^= 1 << g.below(8)
		}
		want := fmt.Sprint("bytes ", len(b))
		if q, e := ip4.Parse(b); e == api.OK {
			want = lineOf(q)
		} else if q, e := ip6.Parse(b); e == api.OK {
			want = lineOf(q)
		}
		if got := Tell(b); got != want || strings.ContainsAny(got, "\n#") {
			t.Fatalf("P26.1: Tell(%x) = %q, want %q", b, got, want)
		}
	}
}

// P26.1: a host's state: sockets, then entries, the oldest first, then bytes, then paths.
func TestState(t *testing.T) {
	w := opened(t, text6)
	tells(t, w, "state 0 => ok 0; bytes 0", "bind 0 fd00::1 9 => ok 1 9", "bind 0 0.0.0.0 9 => ok 2 9", "bind 1 :: 7 => ok 1 7", "bind 1 0.0.0.0 7 => ok 2 7", "bind 1 0.0.0.0 8 => ok 3 8", "shut 1 3 => ok", "bind 1 0.0.0.0 8 => ok 4 8",
		"send 0 1 fd00:1::1 7 *1400 => ok", "flight => ok 1; 2 v6 fd00::1 fd00:1::1 proto 17 ttl 64 data 1408", "forward 0 => ok", "flight => ok 1; 0 v6 fd00::9 fd00::1 proto 58 ttl 64 data 1240", "forward 0 => ok",
		"mtu 0 fd00:1::1 => ok 1280", "state 0 => ok 2; socket 1 0; socket 2 0; bytes 0; path fd00:1::1",
		"send 0 2 10.0.1.1 8 df *1400 => ok", "run 2 => ok 2", "state 0 => ok 2; socket 1 0; socket 2 0; bytes 0; path 10.0.1.1; path fd00:1::1",
		"send 0 1 fd00:1::1 7 *1400 => ok", "send 0 2 10.0.1.1 8 *1400 => ok", "drop 1 => ok",
		"flight => ok 3; 2 v6 fd00::1 fd00:1::1 proto 17 ttl 64 frag 0 more data 1232; 2 v4 10.0.0.1 10.0.1.1 proto 17 ttl 64 id 1 more data 1256; 2 v4 10.0.0.1 10.0.1.1 proto 17 ttl 64 id 1 off 1256 data 152",
		"swap 0 2 => ok", "run 4 => ok 4",
		"state 1 => ok 3; socket 1 0; socket 2 0; socket 4 0; entry 10.0.0.1 10.0.1.1 17 1; bytes 152", "tick => ok", "drop 0 => ok", "run 9 => ok 1",
		"state 1 => ok 3; socket 1 0; socket 2 0; socket 4 0; entry 10.0.0.1 10.0.1.1 17 1; entry fd00::1 fd00:1::1 17 0; bytes 1384",
		"send 0 2 10.0.1.1 8 : => ok", "send 0 2 10.0.1.1 8 :01 => ok", "send 0 2 10.0.1.1 7 :02 => ok", "run 6 => ok 6",
		"state 1 => ok 3; socket 1 0; socket 2 1; socket 4 2; entry 10.0.0.1 10.0.1.1 17 1; entry fd00::1 fd00:1::1 17 0; bytes 1384",
		"recv 1 4 => ok 10.0.0.1 9 10.0.1.1 8 :", "recv 1 2 => ok 10.0.0.1 9 10.0.1.1 7 :02", "state 1 => ok 3; socket 1 0; socket 2 0; socket 4 1; entry 10.0.0.1 10.0.1.1 17 1; entry fd00::1 fd00:1::1 17 0; bytes 1384",
		"state 2 => no 240", "state 3 => no 240", "state 9999999999 => no 240")
}

// P26.1: each move, told and refused.
func TestMoves(t *testing.T) {
	w := opened(t, exampleText)
	begins(t, w)
	tells(t, w,
		"bind 2 10.0.0.9 7 => no 240", "bind 0 10.0.0.2 7 => no 1", "bind 0 10.0.0.1 65536 => no 1", "bind 0 :: 0 => ok 2 49152", "shut 0 3 => no 1", "shut 2 1 => no 240", "shut 0 2 => ok", "shut 0 2 => no 1",
		"send 2 1 10.0.1.1 7 : => no 240", "send 0 2 10.0.1.1 7 : => no 1", "send 0 1 11.0.0.1 7 : => no 210", "send 0 1 224.0.0.1 7 : => no 1", "send 0 1 10.0.1.1 0 : => no 1", "send 0 1 10.0.1.1 7 opts=:ff : => no 40",
		"recv 2 1 => no 240", "recv 0 9 => no 1", "recv 0 1 => no 220", "mtu 0 10.0.1.1 => ok 1500", "mtu 1 10.0.0.1 => ok 576", "mtu 2 10.0.0.1 => no 240", "mtu 0 11.0.0.1 => no 210",
		"forward 0 => no 240", "drop 0 => no 240", "twin 0 => no 240", "swap 0 0 => no 240", "spoil 0 0 1 => no 240", "recut 0 68 => no 240", "inject 3 : => no 240", "flight => ok 0",
		"inject 1 :4500 => ok", "spoil 0 1 255 => ok", "spoil 0 2 1 => no 1", "spoil 0 0 0 => no 1", "spoil 0 0 256 => no 1", "recut 0 68 => no 1", "flight => ok 1; 1 bytes 2",
		"inject 2 : => ok", "inject 0 *3 => ok", "swap 0 2 => ok", "flight => ok 3; 0 bytes 3; 2 bytes 0; 1 bytes 2", "swap 2 3 => no 240", "swap 3 2 => no 240", "drop 1 => ok", "twin 0 => ok", "flight => ok 3; 0 bytes 3; 0 bytes 3; 1 bytes 2", "run 9 => ok 3", "run 9 => ok 0",
		"send 0 1 10.0.1.1 7 *100 => ok", "recut 0 67 => no 1", "recut 0 76 => ok",
		"flight => ok 2; 2 v4 10.0.0.1 10.0.1.1 proto 17 ttl 64 id 0 more data 56; 2 v4 10.0.0.1 10.0.1.1 proto 17 ttl 64 id 0 off 56 data 52",
		"spoil 0 30 1 => ok", "clear => ok no", "send 0 1 10.0.1.1 7 df *100 => ok", "recut 2 76 => no 100", "now => ok 0", "tick => ok", "now => ok 1", "clear => ok no")
}
