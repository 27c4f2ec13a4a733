package recut

import (
	"bytes"
	"math"
	"slices"
	"strconv"
	"testing"

	"mosaic/api"
)

func checkIs(t *testing.T, what string, p api.Packet, mtu int, l []api.Packet) {
	t.Helper()
	if got, want := Is(p, mtu, l), is(p, mtu, l); got != want {
		t.Fatalf("P11.1: %s: Is of %d bytes at %d for %d, %v: %v", what, long(p), p.Off, mtu, lengths(l), got)
	}
}

// checkRecut holds an answer of Recut against the model and the promises.
func checkRecut(t *testing.T, what string, p api.Packet, mtu int) []api.Packet {
	t.Helper()
	got, e := Recut(p, mtu)
	want, code := wanted(p, mtu)
	if e != code || !alike(got, want) {
		t.Fatalf("P11.2: %s: %d bytes at %d for %d: %v, %d, wanted %v, %d", what, long(p), p.Off, mtu, lengths(got), e, lengths(want), code)
	}
	if e == api.OK && (!is(p, mtu, got) || !Is(p, mtu, got)) {
		t.Fatalf("P11.6: %s: %d bytes at %d for %d: Is does not take %v", what, long(p), p.Off, mtu, lengths(got))
	}
	return got
}

func cutsInto(t *testing.T, what string, p api.Packet, mtu int, sizes ...int) {
	t.Helper()
	if got := checkRecut(t, what, p, mtu); !alike(got, parts(p, sizes...)) {
		t.Errorf("P11.2: %s for %d: %v, wanted %v", what, mtu, lengths(got), sizes)
	}
}

func refuses(t *testing.T, what string, p api.Packet, mtu int, want api.Errno) {
	t.Helper()
	if got, e := Recut(p, mtu); e != want || len(got) != 0 {
		t.Errorf("P11.2: %s for %d: %v, %d, wanted %d", what, mtu, lengths(got), e, want)
	}
}

func TestExamplesOfRecut(t *testing.T) {
	p := four(100)
	cutsInto(t, "example 1", p, 120, 100)
	cutsInto(t, "example 1", p, 119, 96, 4)
	cutsInto(t, "example 1", p, 68, 48, 48, 4)
	refuses(t, "example 1", p, 67, api.ErrArg)
	kept := with(p, func(p *api.Packet) { p.DF = true })
	refuses(t, "example 1: DF", kept, 119, api.ErrBig)
	cutsInto(t, "example 1: DF", kept, 120, 100)

	second := checkRecut(t, "example 1", p, 68)[1]
	cutsInto(t, "example 2", second, 68, 48)
	l := checkRecut(t, "example 2", piece(four(96), 800, true), 68)
	if len(l) != 2 || l[0].Off != 800 || l[1].Off != 848 || !l[0].More || !l[1].More || len(l[0].Data) != 48 || len(l[1].Data) != 48 {
		t.Errorf("P11.2: example 2: %v", lengths(l))
	}

	o := four(100, both()...)
	cutsInto(t, "example 3", o, 76, 48, 52)
	cutsInto(t, "example 3", o, 75, 40, 48, 12)
	l = checkRecut(t, "example 3", o, 76)
	if !bytes.Equal(l[0].Opts, both()) || !bytes.Equal(l[1].Opts, []byte{0x82, 4, 0xcc, 0xdd}) {
		t.Errorf("P11.2: example 3: % x, % x", l[0].Opts, l[1].Opts)
	}
}

func TestExamplesOfIs(t *testing.T) {
	p := four(100)
	l, _ := Recut(p, 68)
	if !Is(p, 119, l) || Is(p, 60, l) || !Is(p, 200, []api.Packet{p}) || Is(p, 119, []api.Packet{p}) {
		t.Error("P11.1: example 5")
	}
}

func TestHardPlaces(t *testing.T) {
	cutsInto(t, "More at the end", piece(four(104), 16, true), 68, 48, 48, 8)
	cutsInto(t, "no More at the end", piece(four(100), 16, false), 68, 48, 48, 4)
	cutsInto(t, "a head of 60", four(40, bytes.Repeat([]byte{1}, 40)...), 68, 8, 32)
	cutsInto(t, "a head of 60 in all", four(20, bytes.Repeat([]byte{0x94, 4, 5, 6}, 10)...), 68, 8, 8, 4)
	cutsInto(t, "a head of 60 in all, and 75", four(31, bytes.Repeat([]byte{0x94, 4, 5, 6}, 10)...), 75, 8, 8, 15)
	cutsInto(t, "a head of 60 in all, and 76", four(31, bytes.Repeat([]byte{0x94, 4, 5, 6}, 10)...), 76, 16, 15)
	cutsInto(t, "no data", four(0), 68, 0)
	cutsInto(t, "no data, a head of 60", four(0, bytes.Repeat([]byte{1}, 40)...), 68, 0)
	cutsInto(t, "no data, DF", with(four(0), func(p *api.Packet) { p.DF = true }), 68, 0)
	cutsInto(t, "a last piece that fills the MTU", four(99), 71, 48, 51)
	cutsInto(t, "one byte more than that", four(100), 71, 48, 48, 4)
	cutsInto(t, "one byte is left", four(97), 68, 48, 48, 1)
	cutsInto(t, "the last offset", piece(four(55), 65480, false), 68, 48, 7)
}

func TestVersion6IsNotCut(t *testing.T) {
	for _, p := range []api.Packet{six(1300), piece(six(1304), 0, true), piece(six(1304), 64, true), piece(six(1300), 64, false), piece(six(1300), 0, false)} {
		n := long(p)
		refuses(t, "version 6", p, n-1, api.ErrBig)
		refuses(t, "version 6", p, 68, api.ErrBig)
		refuses(t, "version 6", p, 67, api.ErrArg)
		checkRecut(t, "version 6", p, n)
		if !Is(p, n, []api.Packet{p}) || Is(p, n-1, []api.Packet{p}) || Is(p, 65535, parts(p, 8, len(p.Data)-8)) {
			t.Error("P11.1: version 6")
		}
	}
	// Here the least MTU is 68 for both versions.
	for _, p := range []api.Packet{six(28), piece(six(20), 0, false), piece(six(16), 8, true)} {
		if l := checkRecut(t, "version 6", p, 68); len(l) != 1 || !Is(p, 68, l) {
			t.Error("P11.2: version 6 for 68")
		}
	}
	whole := six(100)
	cut := []api.Packet{piece(whole, 0, true), piece(whole, 48, false)}
	cut[0].Data, cut[1].Data = whole.Data[:48], whole.Data[48:]
	if Is(whole, 1500, cut) {
		t.Error("P11.1: version 6 is cut on its way")
	}
}

func edges() []int {
	return []int{math.MinInt, math.MinInt + 20, -65536, -1280, -68, -1, 0, 1, 8, 20, 28, 48, 60, 67, 68, 69, 75, 76, 119, 120, 1279, 1280, 1281,
		1500, 65534, 65535, 65536, 65575, 1 << 32, 1<<32 + 1500, math.MaxInt - 20, math.MaxInt}
}

// some are right packets of all sorts.
func some(n int) []api.Packet {
	l := []api.Packet{four(n), four(n, many()...), six(n), piece(six(n), 0, false)}
	if n > 0 {
		l = append(l, piece(four(n), 8, false), piece(four(n, many()...), 48, false), piece(six(n), 8, false))
	}
	if n > 0 && n%8 == 0 {
		l = append(l, piece(four(n), 0, true), piece(four(n, both()...), 800, true), piece(six(n), 800, true))
	}
	return l
}

func TestEveryMTU(t *testing.T) {
	for _, mtu := range edges() {
		for _, n := range []int{0, 1, 8, 48, 49, 60, 1232, 1240, 1260, 3000} {
			for _, p := range some(n) {
				l := checkRecut(t, "an MTU", p, mtu)
				checkIs(t, "an MTU", p, mtu, l)
				checkIs(t, "alone", p, mtu, []api.Packet{p})
				p.DF = true
				checkRecut(t, "DF", p, mtu)
				checkIs(t, "DF alone", p, mtu, []api.Packet{p})
			}
		}
	}
}

// wrongs are ways to set a packet's fields, many of which make it no right one.
func wrongs() map[string]func(*api.Packet) {
	set := map[string]func(*api.Packet){
		"zero": func(p *api.Packet) { *p = api.Packet{} }, "Frag": func(p *api.Packet) { p.Frag = true }, "DF": func(p *api.Packet) { p.DF = true },
		"More": func(p *api.Packet) { p.More = true }, "Off 8 and More": func(p *api.Packet) { p.Off, p.More = 8, true },
		"Off 8 and Frag": func(p *api.Packet) { p.Off, p.Frag = 8, true }, "More and Frag": func(p *api.Packet) { p.More, p.Frag = true, true },
		"ID 65535": func(p *api.Packet) { p.ID = 65535 }, "ID 65536": func(p *api.Packet) { p.ID = 65536 }, "ID": func(p *api.Packet) { p.ID = math.MaxUint32 },
		"Src of 4": func(p *api.Packet) { p.Src = four(0).Src }, "Dst of 6": func(p *api.Packet) { p.Dst = six(0).Dst }, "no Dst": func(p *api.Packet) { p.Dst = api.Addr{} },
		"Src with more bytes": func(p *api.Packet) { p.Src.B[4] = 1 }, "both of 6": func(p *api.Packet) { p.Src, p.Dst = six(0).Src, six(0).Dst },
		"no list": func(p *api.Packet) { p.Opts = []byte{7, 1, 1, 1} }, "44 bytes": func(p *api.Packet) { p.Opts = make([]byte, 44) },
		"one byte": func(p *api.Packet) { p.Opts = []byte{1} }, "four bytes": func(p *api.Packet) { p.Opts = []byte{1, 1, 1, 1} },
		"65515 bytes": func(p *api.Packet) { p.Data = fill(65515) }, "65516 bytes": func(p *api.Packet) { p.Data = fill(65516) },
		"65535 bytes": func(p *api.Packet) { p.Data = fill(65535) }, "65536 bytes": func(p *api.Packet) { p.Data = fill(65536) }, "no bytes": func(p *api.Packet) { p.Data = nil },
	}
	for what, field := range map[string]func(*api.Packet, int){
		"V": func(p *api.Packet, n int) { p.V = n }, "TOS": func(p *api.Packet, n int) { p.TOS = n }, "Flow": func(p *api.Packet, n int) { p.Flow = n },
		"Proto": func(p *api.Packet, n int) { p.Proto = n }, "TTL": func(p *api.Packet, n int) { p.TTL = n }, "Off": func(p *api.Packet, n int) { p.Off = n },
		"Src.V": func(p *api.Packet, n int) { p.Src.V = n }, "Dst.V": func(p *api.Packet, n int) { p.Dst.V = n },
	} {
		for _, n := range []int{math.MinInt, -8, -1, 0, 1, 4, 5, 6, 8, 43, 44, 45, 255, 256, 1<<20 - 1, 1 << 20, 65504, 65520, 65528, 65536, 1<<32 + 4, 1<<32 + 6, math.MaxInt - 7, math.MaxInt} {
			set[what+" "+strconv.Itoa(n)] = func(p *api.Packet) { field(p, n) }
		}
	}
	return set
}

func TestEveryField(t *testing.T) {
	for what, wrong := range wrongs() {
		for _, n := range []int{16, 104} {
			for _, base := range some(n) {
				p := base
				wrong(&p)
				for _, mtu := range []int{67, 68, 1280, 65535, 65536} {
					l := checkRecut(t, what, p, mtu)
					checkIs(t, what, p, mtu, l)
					checkIs(t, what+", alone", p, mtu, []api.Packet{p})
					checkIs(t, what+", of another", p, mtu, []api.Packet{base})
					checkIs(t, what+", as one", base, mtu, []api.Packet{p})
					checkIs(t, what+", as two", base, mtu, []api.Packet{p, p})
				}
			}
		}
	}
}

func TestArgumentsComeAheadOfTheSize(t *testing.T) {
	p := with(four(3000), func(p *api.Packet) { p.DF = true })
	refuses(t, "DF", p, 1500, api.ErrBig)
	refuses(t, "DF, no MTU", p, 67, api.ErrArg)
	refuses(t, "DF, not right", with(p, func(p *api.Packet) { p.TTL = 256 }), 1500, api.ErrArg)
	refuses(t, "DF, a fragment", piece(p, 8, true), 1500, api.ErrBig)
	refuses(t, "it fits, no MTU", four(8), 65536, api.ErrArg)
	refuses(t, "version 6, no MTU", six(3000), 67, api.ErrArg)
	refuses(t, "version 6, not right", with(six(3000), func(p *api.Packet) { p.Proto = 44 }), 1500, api.ErrArg)
}

// fewest is the least number of pieces, by trying every way: of each offset in units of 8 what the pieces behind it need.
func fewest(p api.Packet, mtu int) int {
	if long(p) <= mtu {
		return 1
	}
	later, _ := carried(p.Opts)
	n := len(p.Data)
	behind := make([]int, n/8+1)
	for i := len(behind) - 1; i >= 0; i-- {
		head := 20 + len(later)
		if i == 0 {
			head = 20 + len(p.Opts)
		}
		behind[i] = math.MaxInt32
		if left := n - 8*i; left > 0 && head+left <= mtu {
			behind[i] = 1
		}
		for k := i + 1; k < len(behind) && head+8*(k-i) <= mtu; k++ {
			behind[i] = min(behind[i], 1+behind[k])
		}
	}
	return behind[0]
}

func TestFewest(t *testing.T) {
	for _, o := range optionLists() {
		for n := 1; n < 250; n++ {
			for mtu := 68; mtu < 145; mtu += 1 + n%3 {
				p := piece(four(n, o[0]...), 8*(n%5), n%8 == 0 && mtu%2 == 0)
				if l := checkRecut(t, "small", p, mtu); len(l) != fewest(p, mtu) {
					t.Fatalf("P11.6: %d bytes for %d: %d pieces, %d would do", long(p), mtu, len(l), fewest(p, mtu))
				}
			}
		}
	}
}

func TestNoListHasFewer(t *testing.T) {
	for more := range 8 {
		for _, o := range optionLists() {
			p := piece(four(88+more, o[0]...), 16*more, more == 0)
			for _, mtu := range []int{68, 76, 83, 91, 100} {
				best := len(checkRecut(t, "small", p, mtu))
				for _, sizes := range partings(11, more) {
					if len(sizes) < best && Is(p, mtu, parts(p, sizes...)) {
						t.Fatalf("P11.6: %d bytes for %d: %v, and Recut makes %d", long(p), mtu, sizes, best)
					}
				}
			}
		}
	}
}

func TestJustTooLong(t *testing.T) {
	for _, o := range optionLists() {
		for _, mtu := range []int{68, 69, 75, 76, 576, 1500, 65534} {
			for n := mtu - 90; n < mtu+20; n++ {
				for _, p := range []api.Packet{four(max(n, 0), o[0]...), piece(four(max(n, 0), o[0]...), 8, false), piece(four(max(n, 0), o[0]...), 16, true)} {
					if long(p) > 0 {
						checkRecut(t, "about an MTU", p, mtu)
					}
				}
			}
		}
	}
}

func TestGreatest(t *testing.T) {
	for _, mtu := range []int{68, 75, 76, 84, 576, 1500, 32768, 65534, 65535} {
		for _, o := range optionLists() {
			head := 20 + len(o[0])
			for _, p := range []api.Packet{four(65535-head, o[0]...), piece(four(65535-head, o[0]...), head/8*8, false),
				piece(four((65535-head)/8*8, o[0]...), head/8*8, true), piece(four(655, o[0]...), 64880, false), piece(four(648, o[0]...), 64880, true)} {
				l := checkRecut(t, "the greatest", p, mtu)
				if len(l) == 0 {
					t.Fatalf("P11.2: the greatest for %d: %d bytes at %d", mtu, long(p), p.Off)
				}
				for _, q := range l[1:] {
					if !bytes.Equal(q.Opts, o[1]) {
						t.Fatalf("P11.2: carried % x of % x", q.Opts, o[0])
					}
				}
			}
		}
	}
}

func longestOf(l []api.Packet) int {
	n := 0
	for _, q := range l {
		n = max(n, long(q))
	}
	return n
}

func TestAnyPartingWillDo(t *testing.T) {
	for more := range 8 {
		for _, sizes := range partings(8, more) {
			for _, o := range [][]byte{nil, both(), many()} {
				p := piece(four(64+more, o...), 24*more, more == 0 && len(sizes)%2 == 0)
				l := parts(p, sizes...)
				most := longestOf(l)
				for _, mtu := range []int{67, 68, most - 1, most, most + 1, 1500, 65535, 65536} {
					if want := mtu >= max(68, most) && mtu < 65536; Is(p, mtu, l) != want {
						t.Fatalf("P11.1: %v with % x at %d for %d: wanted %v", sizes, o, p.Off, mtu, want)
					}
				}
			}
		}
	}
}

func TestPartedElsewhere(t *testing.T) {
	for _, sizes := range [][]int{{12, 52}, {8, 7, 49}, {1, 63}, {60, 4}, {64, 0}, {0, 64}, {32, 0, 32}, {63, 1}} {
		for _, p := range []api.Packet{four(64), piece(four(64), 80, true), piece(four(64), 80, false)} {
			if l := parts(p, sizes...); Is(p, 1500, l) || is(p, 1500, l) {
				t.Errorf("P11.1: %v is taken", sizes)
			}
		}
	}
}

// changes are ways to change one field of a packet.
func changes() map[string]func(*api.Packet) {
	set := map[string]func(*api.Packet){
		"the other V": func(p *api.Packet) { p.V = 10 - p.V }, "V 0": func(p *api.Packet) { p.V = 0 }, "TOS": func(p *api.Packet) { p.TOS ^= 1 },
		"Flow": func(p *api.Packet) { p.Flow ^= 1 }, "Src": func(p *api.Packet) { p.Src.B[3] ^= 1 }, "Dst": func(p *api.Packet) { p.Dst.B[3] ^= 1 },
		"Src.V": func(p *api.Packet) { p.Src.V = 10 - p.Src.V }, "Dst's last byte": func(p *api.Packet) { p.Dst.B[15] ^= 1 },
		"Proto": func(p *api.Packet) { p.Proto ^= 1 }, "TTL": func(p *api.Packet) { p.TTL ^= 1 }, "ID": func(p *api.Packet) { p.ID ^= 1 },
		"DF": func(p *api.Packet) { p.DF = !p.DF }, "More": func(p *api.Packet) { p.More = !p.More }, "Frag": func(p *api.Packet) { p.Frag = !p.Frag },
		"Off less": func(p *api.Packet) { p.Off -= 8 }, "Off more": func(p *api.Packet) { p.Off += 8 }, "Off by 1": func(p *api.Packet) { p.Off++ },
		"the least Off": func(p *api.Packet) { p.Off = math.MinInt }, "the greatest Off": func(p *api.Packet) { p.Off = math.MaxInt - 7 },
		"options more": func(p *api.Packet) { p.Opts = append(bytes.Clone(p.Opts), 0, 0, 0, 0) },
		"options else": func(p *api.Packet) { p.Opts = []byte{0x94, 4, 0, 9} },
		"no options":   func(p *api.Packet) { p.Opts = nil },
		"no list":      func(p *api.Packet) { p.Opts = []byte{0x94} },
		"data more":    func(p *api.Packet) { p.Data = append(bytes.Clone(p.Data), make([]byte, 8)...) },
		"data less":    func(p *api.Packet) { p.Data = p.Data[:len(p.Data)-1] },
		"no data":      func(p *api.Packet) { p.Data = nil },
	}
	for _, at := range []int{0, 1, 7, -1} {
		set["the byte at "+strconv.Itoa(at)] = func(p *api.Packet) {
			p.Data = bytes.Clone(p.Data)
			p.Data[(at+len(p.Data))%len(p.Data)] ^= 0x80
		}
	}
	return set
}

type made struct {
	p api.Packet
	l []api.Packet
}

// lists are such as Is takes under 1500.
func lists() []made {
	var all []made
	for _, p := range []api.Packet{four(100), four(104, both()...), four(97, many()...), piece(four(104, many()...), 0, true), piece(four(104), 800, true), piece(four(99, both()...), 8, false), six(100), piece(six(104), 8, true)} {
		n := len(p.Data)
		all = append(all, made{p, []api.Packet{p}})
		if p.V == 6 {
			continue
		}
		for _, sizes := range [][]int{{48, n - 48}, {8, 8, 16, n - 32}, {16, 16, 16, 16, n - 64}, {96, n - 96}} {
			all = append(all, made{p, parts(p, sizes...)})
		}
	}
	return all
}

func TestOneFieldChanged(t *testing.T) {
	for _, c := range lists() {
		if !Is(c.p, 1500, c.l) {
			t.Fatalf("P11.1: %v is not taken", lengths(c.l))
		}
		for what, change := range changes() {
			for i := range c.l {
				l := slices.Clone(c.l)
				change(&l[i])
				if !same(l[i], c.l[i]) && Is(c.p, 1500, l) {
					t.Errorf("P11.1: version %d, %v: taken with %s of the %d-th changed", c.p.V, lengths(c.l), what, i)
				}
			}
			all := slices.Clone(c.l)
			for i := range all {
				change(&all[i])
			}
			checkIs(t, what+" of all", c.p, 1500, all)
			p := c.p
			change(&p)
			checkIs(t, what+" of the packet", p, 1500, c.l)
			checkIs(t, what+" of both", p, 1500, all)
		}
	}
}

func TestLeftOutDoubledChangedAbout(t *testing.T) {
	for _, c := range lists() {
		for i := range c.l {
			if Is(c.p, 1500, without(c.l, i)) {
				t.Errorf("P11.1: taken without the %d-th of %v", i, lengths(c.l))
			}
			for at := range len(c.l) + 1 {
				if Is(c.p, 1500, inserted(c.l, at, c.l[i])) {
					t.Errorf("P11.1: taken with the %d-th of %v twice", i, lengths(c.l))
				}
			}
			for j := range i {
				l := slices.Clone(c.l)
				l[i], l[j] = l[j], l[i]
				if Is(c.p, 1500, l) {
					t.Errorf("P11.1: taken with %d and %d of %v changed about", i, j, lengths(c.l))
				}
			}
		}
		for _, l := range [][]api.Packet{nil, {}, {c.p, c.p}, append(c.l[:len(c.l):len(c.l)], c.p), append([]api.Packet{c.p}, c.l...), {{}}} {
			if Is(c.p, 1500, l) {
				t.Errorf("P11.1: %v is taken", lengths(l))
			}
		}
	}
}

func TestNilAndEmptyAreTheSame(t *testing.T) {
	for _, p := range []api.Packet{four(0), four(16), six(0), six(16)} {
		q := p
		p.Opts, q.Opts = nil, []byte{}
		if len(p.Data) == 0 {
			p.Data, q.Data = nil, []byte{}
		}
		if !Is(p, 68, []api.Packet{q}) || !Is(q, 68, []api.Packet{p}) {
			t.Error("P11.1: nil and empty, alone")
		}
		checkRecut(t, "nil", p, 68)
		checkRecut(t, "empty", q, 68)
	}
	p := four(100)
	l := parts(p, 48, 52)
	p.Opts, l[0].Opts, l[1].Opts = []byte{}, nil, []byte{}
	if !Is(p, 68+4, l) {
		t.Error("P11.1: nil and empty, in two")
	}
}

func TestDFIsNotParted(t *testing.T) {
	p := with(four(100), func(p *api.Packet) { p.DF = true })
	l := parts(p, 48, 52)
	if Is(p, 1500, l) {
		t.Error("P11.1: DF is parted")
	}
	for i := range l {
		l[i].DF = false
	}
	if Is(p, 1500, l) || !Is(p, 1500, []api.Packet{p}) || Is(p, 119, []api.Packet{p}) {
		t.Error("P11.1: DF")
	}
	for _, off := range []int{0, 8} {
		q := piece(with(four(96), func(p *api.Packet) { p.DF = true }), off, true)
		if Is(q, 1500, parts(q, 48, 48)) || !Is(q, 1500, []api.Packet{q}) {
			t.Error("P11.1: a fragment with DF")
		}
	}
}

func TestRandomPackets(t *testing.T) {
	s := source(11)
	for range 20000 {
		checkRecut(t, "random", s.packet(), []int{68, 576, 1500}[s.below(3)]+s.below(300))
	}
}

func TestRandomLists(t *testing.T) {
	s := source(4)
	all := changes()
	var names []string
	for what := range all {
		names = append(names, what)
	}
	slices.Sort(names)
	taken := 0
	for range 20000 {
		p := s.packet()
		if len(p.Data) == 0 {
			continue
		}
		l := parts(p, s.parting(len(p.Data), 1+s.below(40))...)
		if s.below(3) == 0 {
			all[names[s.below(len(names))]](&l[s.below(len(l))])
		}
		mtu := []int{68, 576, 1500}[s.below(3)] + s.below(300)
		checkIs(t, "random", p, mtu, l)
		if len(l) > 1 && Is(p, mtu, l) {
			taken++
		}
	}
	if taken < 1000 {
		t.Errorf("only %d lists are taken", taken)
	}
}

// again cuts each packet of a list once more, some as Recut does, some anyhow, and tells the greatest MTU of these cuts.
func (s *source) again(t *testing.T, l []api.Packet) ([]api.Packet, int) {
	var all []api.Packet
	most := 0
	for _, q := range l {
		mtu := 68 + s.below(200)
		k, e := Recut(q, mtu)
		if s.chance() || e != api.OK {
			k = []api.Packet{q}
			if q.V == 4 && !q.DF && len(q.Data) > 0 {
				k = parts(q, s.parting(len(q.Data), 1+s.below(10))...)
			}
			mtu = max(68, longestOf(k))
		}
		if !Is(q, mtu, k) {
			t.Fatalf("P11.1: %v is not taken for %d", lengths(k), mtu)
		}
		all, most = append(all, k...), max(most, mtu)
	}
	return all, most
}

func TestCutAgain(t *testing.T) {
	s := source(5)
	for range 3000 {
		p := s.packet()
		l, mtu := s.again(t, []api.Packet{p})
		for range 3 {
			if !Is(p, mtu, l) {
				t.Fatalf("P11.5: %d bytes at %d: %v is not taken for %d", long(p), p.Off, lengths(l), mtu)
			}
			l, mtu = s.again(t, l)
		}
	}
}

func TestCutAgainInEveryWay(t *testing.T) {
	for _, o := range [][]byte{nil, both(), many()} {
		for _, p := range []api.Packet{four(36, o...), piece(four(32, o...), 8, true)} {
			for _, sizes := range partings(4, len(p.Data)%8) {
				l := parts(p, sizes...)
				for i, q := range l {
					if len(q.Data) < 8 {
						continue
					}
					for _, finer := range partings(len(q.Data)/8, len(q.Data)%8) {
						k := slices.Concat(l[:i], parts(q, finer...), l[i+1:])
						if !Is(p, max(68, longestOf(k)), k) {
							t.Fatalf("P11.5: %v and of it the %d-th in %v", sizes, i, finer)
						}
					}
				}
			}
		}
	}
}
