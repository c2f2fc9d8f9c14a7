// Package written holds no code of the program: it is for the layers' tests, which tell addresses, prefixes and routes as they are written (layer 3).
package written

import (
	"strconv"
	"strings"

	"kedge/api"
	"kedge/text"
)

// wrong is a prefix that may not be: what a text that is not of the form is read as, so that no test takes it for one that is.
func wrong() api.Prefix { return api.Prefix{N: -1} }

// Addr is an address as it is written; of a text that is not of the form it has digits that a short one does not have.
func Addr(s string) api.Addr {
	a, e := text.ParseAddr(s)
	if e != api.OK {
		return api.Addr{Hi: 1, Lo: 1}
	}
	return a
}

// Prefix is a prefix as it is written.
func Prefix(s string) api.Prefix {
	p, e := text.Parse(s)
	if e != api.OK {
		return wrong()
	}
	return p
}

// Prefixes are several, with spaces between.
func Prefixes(s string) []api.Prefix {
	var l []api.Prefix
	for _, f := range strings.Fields(s) {
		l = append(l, Prefix(f))
	}
	return l
}

// Route is a prefix, a > and a hop.
func Route(s string) api.Route {
	p, hop, _ := strings.Cut(s, ">")
	n, err := strconv.Atoi(hop)
	if err != nil {
		return api.Route{P: wrong(), Hop: -1}
	}
	return api.Route{P: Prefix(p), Hop: n}
}

// Routes are several, with spaces between.
func Routes(s string) []api.Route {
	var l []api.Route
	for _, f := range strings.Fields(s) {
		l = append(l, Route(f))
	}
	return l
}

// Show is routes as Routes reads them.
func Show(l ...api.Route) string {
	var parts []string
	for _, x := range l {
		parts = append(parts, text.Print(x.P)+">"+strconv.Itoa(x.Hop))
	}
	return strings.Join(parts, " ")
}
