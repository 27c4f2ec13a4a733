package addr

import (
	"strconv"
	"strings"

	"mosaic/api"
)

// groupsOf6 is the number of groups of an address of V 6.
const groupsOf6 = 8

// Parse reads a text.
func Parse(s string) (api.Addr, api.Errno) {
	read := parse4
	if strings.Contains(s, ":") {
		read = parse6
	}
	a, ok := read(s)
	if !ok {
		return api.Addr{}, api.ErrText
	}
	return a, api.OK
}

func parse4(s string) (api.Addr, bool) {
	a := api.Addr{V: 4}
	rest := s
	for i := range 4 {
		text, behind, dot := strings.Cut(rest, ".")
		n, ok := number(text)
		if !ok || dot != (i < 3) {
			return api.Addr{}, false
		}
		a.B[i] = n
		rest = behind
	}
	return a, true
}

// number reads one to three decimal digits by hand: the library's reading takes signs and noughts in front.
func number(text string) (byte, bool) {
	if len(text) < 1 || len(text) > 3 || (text[0] == '0' && text != "0") {
		return 0, false
	}
	n := 0
	for _, c := range []byte(text) {
		if c < '0' || c > '9' {
			return 0, false
		}
		n = 10*n + int(c-'0')
	}
	return byte(n), n <= 255
}

func parse6(s string) (api.Addr, bool) {
	// A second "::", or a third colon, leaves an empty group to the part behind, which refuses it.
	ahead, behind, short := strings.Cut(s, "::")
	front, ok := groups(ahead)
	if !ok {
		return api.Addr{}, false
	}
	back, ok := groups(behind)
	if !ok {
		return api.Addr{}, false
	}
	given := len(front) + len(back)
	if given > groupsOf6 || short == (given == groupsOf6) {
		return api.Addr{}, false
	}
	var all [groupsOf6]uint16
	copy(all[:], front)
	copy(all[groupsOf6-len(back):], back)
	return join(all), true
}

// groups reads the groups of a text, of which an empty one has none.
func groups(text string) ([]uint16, bool) {
	var list []uint16
	more := text != ""
	for more {
		var one string
		one, text, more = strings.Cut(text, ":")
		g, ok := group(one)
		// A text of any length is given up at the first group too many.
		if !ok || len(list) == groupsOf6 {
			return nil, false
		}
		list = append(list, g)
	}
	return list, true
}

// group reads one to four hexadecimal digits.
func group(text string) (uint16, bool) {
	if len(text) < 1 || len(text) > 4 {
		return 0, false
	}
	var g uint16
	for _, c := range []byte(text) {
		n, ok := digit(c)
		if !ok {
			return 0, false
		}
		g = g<<4 | uint16(n)
	}
	return g, true
}

func digit(c byte) (byte, bool) {
	switch {
	case c >= '0' && c <= '9':
		return c - '0', true
	case c >= 'a' && c <= 'f':
		return c - 'a' + 10, true
	case c >= 'A' && c <= 'F':
		return c - 'A' + 10, true
	}
	return 0, false
}

func join(all [groupsOf6]uint16) api.Addr {
	a := api.Addr{V: 6}
	for i, g := range all {
		a.B[2*i], a.B[2*i+1] = byte(g>>8), byte(g)
	}
	return a
}

func split(a api.Addr) [groupsOf6]uint16 {
	var all [groupsOf6]uint16
	for i := range all {
		all[i] = uint16(a.B[2*i])<<8 | uint16(a.B[2*i+1])
	}
	return all
}

// Print writes it in its one form.
func Print(a api.Addr) string {
	switch {
	case !Valid(a):
		return ""
	case a.V == 4:
		return print4(a.B[:4])
	}
	all := split(a)
	from, to := zeros(all)
	if to-from < 2 {
		return print6(all[:])
	}
	return print6(all[:from]) + "::" + print6(all[to:])
}

func print4(b []byte) string {
	var parts []string
	for _, n := range b {
		parts = append(parts, strconv.Itoa(int(n)))
	}
	return strings.Join(parts, ".")
}

func print6(list []uint16) string {
	var parts []string
	for _, g := range list {
		parts = append(parts, strconv.FormatUint(uint64(g), 16))
	}
	return strings.Join(parts, ":")
}

// zeros tells where the longest run of groups of 0 begins and ends, of runs of one length the first.
func zeros(all [groupsOf6]uint16) (from, to int) {
	start := 0
	for i, g := range all {
		if g != 0 {
			start = i + 1
			continue
		}
		if i+1-start > to-from {
			from, to = start, i+1
		}
	}
	return from, to
}
