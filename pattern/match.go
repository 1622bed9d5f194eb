package pattern

import (
	"exchangepoint/api"
	"exchangepoint/aspath"
)

// place is a node and a position between symbols.
type place struct{ node, at int }

// ends says at which positions a list may end.
type ends [api.MaxPath + 1]bool

func (e *ends) add(other ends) {
	for i, x := range other {
		e[i] = e[i] || x
	}
}

// flat is a node whose Kids are given by their indices.
type flat struct {
	op, from, to int
	kids         []int
}

func flatten(n api.Node, out []flat) []flat {
	at := len(out)
	out = append(out, flat{op: n.Op, from: n.From, to: n.To})
	for _, k := range n.Kids {
		next := len(out)
		out = flatten(k, out)
		out[at].kids = append(out[at].kids, next)
	}
	return out
}

// symbols returns the AS numbers of each symbol of a path.
func symbols(p []api.Segment) [][]int {
	var out [][]int
	for _, s := range p {
		if s.Set {
			out = append(out, s.ASNs)
			continue
		}
		for i := range s.ASNs {
			out = append(out, s.ASNs[i:i+1])
		}
	}
	return out
}

func fits(symbol []int, from, to int) bool {
	for _, n := range symbol {
		if n < from || n > to {
			return false
		}
	}
	return true
}

// Match reports whether the symbols of a path are a list that a pattern stands for.
func Match(n api.Node, p []api.Segment) bool {
	if !Valid(n) || !aspath.Valid(p) {
		return false
	}
	l := symbols(p)
	nodes := flatten(n, nil)
	known := map[place]ends{}
	var reach func(node, at int) ends
	reach = func(node, at int) ends {
		if e, ok := known[place{node, at}]; ok {
			return e
		}
		e := step(nodes[node], at, l, reach)
		known[place{node, at}] = e
		return e
	}
	return reach(0, 0)[len(l)]
}

// step returns where the lists of a node that begin at a position may end.
func step(n flat, at int, l [][]int, reach func(node, at int) ends) ends {
	var e ends
	switch n.op {
	case api.PatRange:
		if at < len(l) && fits(l[at], n.from, n.to) {
			e[at+1] = true
		}
	case api.PatSeq:
		e[at] = true
		for _, k := range n.kids {
			e = all(k, e, len(l), reach)
		}
	case api.PatAlt:
		for _, k := range n.kids {
			e.add(reach(k, at))
		}
	case api.PatOpt:
		e = reach(n.kids[0], at)
		e[at] = true
	default:
		e[at] = true
		if n.op == api.PatPlus {
			e = reach(n.kids[0], at)
		}
		// No list ends before it begins, so one pass upward finds all ends.
		for i := at; i <= len(l); i++ {
			if e[i] {
				e.add(reach(n.kids[0], i))
			}
		}
	}
	return e
}

// all returns the ends of the lists of a node that begin at any of some positions.
func all(node int, from ends, last int, reach func(node, at int) ends) ends {
	var e ends
	for i := range last + 1 {
		if from[i] {
			e.add(reach(node, i))
		}
	}
	return e
}
