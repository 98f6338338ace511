package regex

import (
	"strconv"
	"strings"

	"drover/api"
)

// Text is e as Parse reads it.
func Text(e api.Expr) string {
	if !Right(e) {
		return ""
	}
	return text(e.Nodes, len(e.Nodes)-1)
}

func text(nodes []api.ExprNode, place int) string {
	n := nodes[place]
	switch n.Kind {
	case api.Nothing:
		return "!"
	case api.Empty:
		return "()"
	case api.Any:
		return "."
	case api.One:
		return strconv.Itoa(n.Switch)
	case api.Star:
		return within(nodes, n.A, api.Cat) + "*"
	case api.Cat:
		return within(nodes, n.A, api.Alt) + " " + within(nodes, n.B, api.Alt)
	}
	return text(nodes, n.A) + "|" + text(nodes, n.B)
}

// within is a part's text, in brackets if its kind is loose or one behind that.
func within(nodes []api.ExprNode, place, loose int) string {
	s := text(nodes, place)
	if nodes[place].Kind >= loose {
		return "(" + s + ")"
	}
	return s
}

// Parse reads a text.
func Parse(s string) (api.Expr, api.Errno) {
	if len(s) > api.MaxText {
		return api.Expr{}, api.ErrBig
	}
	p := parser{terms: newTerms(), text: s}
	place := p.alts()
	switch {
	case p.wrong || p.next() != end:
		return api.Expr{}, api.ErrSyntax
	case p.deepest > api.MaxDeep || place == none:
		return api.Expr{}, api.ErrBig
	}
	return p.terms.write(place), api.OK
}

// parser reads on to the end even of what is too deep or too great, since what is no text at all comes first.
type parser struct {
	*terms
	text          string // what is still to be read
	wrong         bool
	deep, deepest int
}

// end is no byte of a text.
const end = -1

// next is the next byte that isn't a blank.
func (p *parser) next() int {
	p.text = strings.TrimLeft(p.text, " ")
	if p.text == "" {
		return end
	}
	return int(p.text[0])
}

// takes is whether the next byte is this sign; if so, it is read.
func (p *parser) takes(sign byte) bool {
	if p.next() != int(sign) {
		return false
	}
	p.text = p.text[1:]
	return true
}

// fail leaves nothing to read, so that all comes to its end.
func (p *parser) fail() int {
	p.wrong, p.text = true, ""
	return none
}

func (p *parser) alts() int {
	place := p.cats()
	for p.takes('|') {
		place = p.alt(place, p.cats())
	}
	return place
}

func (p *parser) cats() int {
	place := p.stars()
	for {
		switch p.next() {
		case '|', ')', end:
			return place
		}
		place = p.cat(place, p.stars())
	}
}

func (p *parser) stars() int {
	place := p.base()
	for p.takes('*') {
		place = p.star(place)
	}
	return place
}

func (p *parser) base() int {
	switch {
	case p.takes('.'):
		return p.put(api.ExprNode{Kind: api.Any})
	case p.takes('!'):
		return p.put(api.ExprNode{Kind: api.Nothing})
	case p.takes('('):
		return p.inner()
	}
	return p.number()
}

// inner reads on behind an opening bracket.
func (p *parser) inner() int {
	if p.takes(')') {
		return p.put(api.ExprNode{Kind: api.Empty})
	}
	p.deep++
	p.deepest = max(p.deepest, p.deep)
	place := p.alts()
	p.deep--
	if !p.takes(')') {
		return p.fail()
	}
	return place
}

func (p *parser) number() int {
	behind := strings.TrimLeft(p.text, "0123456789")
	digits := p.text[:len(p.text)-len(behind)]
	n, err := strconv.Atoi(digits)
	// It is an error of Atoi's too if there are no digits.
	if err != nil || digits[0] == '0' || n > api.MaxSwitch {
		return p.fail()
	}
	p.text = behind
	return p.put(api.ExprNode{Kind: api.One, Switch: n})
}
