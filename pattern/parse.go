package pattern

import (
	"strconv"
	"strings"

	"exchangepoint/api"
)

// parser reads a text from its beginning; it accepts more than the texts of nodes.
type parser struct{ rest string }

// Parse returns the valid node with a text.
func Parse(s string) (api.Node, api.Errno) {
	if len(s) > api.MaxPattern {
		return api.Node{}, api.ErrLimit
	}
	p := &parser{rest: s}
	n, ok := p.list(api.PatAlt, "|", func() (api.Node, bool) { return p.list(api.PatSeq, " ", p.item) })
	// Each node has one text: what is printed in another way is the text of none.
	if !ok || p.rest != "" || !Valid(n) || Print(n) != s {
		return api.Node{}, api.ErrSyntax
	}
	return n, api.OK
}

func (p *parser) skip(s string) bool {
	rest, ok := strings.CutPrefix(p.rest, s)
	p.rest = rest
	return ok
}

// list reads parts between separators; a single part stands for itself.
func (p *parser) list(op int, separator string, part func() (api.Node, bool)) (api.Node, bool) {
	var kids []api.Node
	for {
		k, ok := part()
		if !ok {
			return api.Node{}, false
		}
		kids = append(kids, k)
		if !p.skip(separator) {
			break
		}
	}
	if len(kids) == 1 {
		return kids[0], true
	}
	return api.Node{Op: op, Kids: kids}, true
}

// item reads a range or what is in brackets, and the marks behind it.
func (p *parser) item() (api.Node, bool) {
	n, ok := p.atom()
	for ok {
		switch {
		case p.skip("*"):
			n = api.Node{Op: api.PatStar, Kids: []api.Node{n}}
		case p.skip("+"):
			n = api.Node{Op: api.PatPlus, Kids: []api.Node{n}}
		case p.skip("?"):
			n = api.Node{Op: api.PatOpt, Kids: []api.Node{n}}
		default:
			return n, true
		}
	}
	return api.Node{}, false
}

func (p *parser) atom() (api.Node, bool) {
	switch {
	case p.skip("."):
		return api.Node{Op: api.PatRange, From: 1, To: api.MaxASN}, true
	case p.skip("()"):
		return api.Node{Op: api.PatSeq}, true
	case p.skip("("):
		n, ok := p.list(api.PatAlt, "|", func() (api.Node, bool) { return p.list(api.PatSeq, " ", p.item) })
		return n, ok && p.skip(")")
	}
	from, ok := p.number()
	if !ok {
		return api.Node{}, false
	}
	to := from
	if p.skip("-") {
		to, ok = p.number()
	}
	return api.Node{Op: api.PatRange, From: from, To: to}, ok
}

func (p *parser) number() (int, bool) {
	n := 0
	for n < len(p.rest) && p.rest[n] >= '0' && p.rest[n] <= '9' {
		n++
	}
	x, err := strconv.Atoi(p.rest[:n])
	p.rest = p.rest[n:]
	return x, err == nil
}
