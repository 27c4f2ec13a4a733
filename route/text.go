package route

import (
	"strconv"
	"strings"

	"mosaic/addr"
	"mosaic/api"
)

// Parse reads routes, a line each.
func Parse(s string) ([]api.Route, api.Errno) {
	var l []api.Route
	for s != "" {
		line, rest, ended := strings.Cut(s, "\n")
		r, ok := parseLine(line)
		if !ended || !ok {
			return nil, api.ErrBad
		}
		// One too many is enough to refuse them all; the lines behind it count for their form alone.
		if len(l) <= api.MaxRoutes {
			l = append(l, r)
		}
		s = rest
	}
	if _, ok := inOrder(l); !ok {
		return nil, api.ErrArg
	}
	return l, api.OK
}

// Print writes routes, a line each, in order.
func Print(l []api.Route) (string, api.Errno) {
	routes, ok := inOrder(l)
	if !ok {
		return "", api.ErrArg
	}
	var b strings.Builder
	for _, r := range routes {
		b.WriteString(addr.Print(r.Net) + "/" + strconv.Itoa(r.Bits) + " " + strconv.Itoa(r.Link) + "\n")
	}
	return b.String(), api.OK
}

// parseLine reads a line without its end; false: it is not of the form. Where a '/' or a blank is missing, so is a number.
func parseLine(line string) (api.Route, bool) {
	net, numbers, _ := strings.Cut(line, "/")
	bits, link, _ := strings.Cut(numbers, " ")
	a, e := addr.Parse(net)
	n, isBits := parseNumber(bits)
	k, isLink := parseNumber(link)
	if e != api.OK || !isBits || !isLink {
		return api.Route{}, false
	}
	return api.Route{Net: a, Bits: n, Link: k}, true
}

// parseNumber reads one to three digits without a nought in front.
func parseNumber(s string) (int, bool) {
	if len(s) < 1 || len(s) > 3 || len(s) > 1 && s[0] == '0' {
		return 0, false
	}
	n := 0
	for i := range len(s) {
		if s[i] < '0' || s[i] > '9' {
			return 0, false
		}
		n = n*10 + int(s[i]-'0')
	}
	return n, true
}
