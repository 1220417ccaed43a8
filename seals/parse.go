package seals

import (
	"slices"
	"strconv"
	"strings"

	"restante/api"
)

// Parse returns the rules of a source, or its fault.
func Parse(src string) (rules api.Rules, fault api.Fault) {
	if len(src) > api.MaxSource {
		return api.Rules{}, api.Fault{Err: api.ErrLimit}
	}
	defer func() {
		if found := recover(); found != nil {
			rules = api.Rules{}
			fault, _ = found.(api.Fault)
		}
	}()
	p := parser{names: map[string]bool{}}
	p.source(src)
	return p.rules, api.Fault{}
}

// parser reads a source line by line; its methods panic with the fault of the line.
type parser struct {
	rules  api.Rules
	names  map[string]bool // of the rules
	line   int             // the number of the line
	tokens []token         // what is still to be read of the line; its end stays
	doubt  api.Fault       // the leftmost fault that counts only if the line has its form
}

func (p *parser) source(src string) {
	form, empty := p.weights, true
	for i, line := range strings.Split(src, "\n") {
		p.tokens, p.line, p.doubt = tokensOf(line), i+1, api.Fault{}
		if len(p.tokens) == 1 {
			continue
		}
		form()
		p.choose("")
		if p.doubt.Err != api.OK {
			panic(p.doubt)
		}
		form, empty = p.rule, false
	}
	if empty {
		panic(api.Fault{Err: api.ErrForm, Line: 1})
	}
}

func (p *parser) fault(e api.Errno, t token) api.Fault {
	return api.Fault{Err: e, Line: p.line, At: t.at}
}

// expect notes a fault at a token unless a condition holds; the fault counts only if the line has its form.
func (p *parser) expect(holds bool, e api.Errno, t token) {
	if !holds && (p.doubt.Err == api.OK || t.at < p.doubt.At) {
		p.doubt = p.fault(e, t)
	}
}

func (p *parser) next() token {
	t := p.tokens[0]
	if t.text != "" {
		p.tokens = p.tokens[1:]
	}
	return t
}

// choose reads one of several tokens, and returns its index among them.
func (p *parser) choose(texts ...string) int {
	t := p.next()
	i := slices.Index(texts, t.text)
	if i < 0 {
		panic(p.fault(api.ErrForm, t))
	}
	return i
}

// need reads this token.
func (p *parser) need(text string) token {
	t := p.tokens[0]
	p.choose(text)
	return t
}

func (p *parser) number(least, most int) int {
	t := p.next()
	if !isNumber(t.text) {
		panic(p.fault(api.ErrForm, t))
	}
	n, _ := strconv.Atoi(t.text)
	p.expect(within(n, least, most), api.ErrArg, t)
	return n
}

func (p *parser) weights() {
	p.need("weights")
	for i := range p.rules.Weights {
		n := p.number(0, api.MaxWeight)
		p.rules.Weights[i] = n
	}
}

func (p *parser) rule() {
	begin := p.need("rule")
	p.expect(len(p.rules.List) < api.MaxRules, api.ErrLimit, begin)
	x := api.Rule{Name: p.name()}
	p.need("rank")
	x.Rank = p.number(1, api.MaxRank)
	p.need(":")
	x.Open = p.choose("leave", "open") == 1
	x.Layer = p.choose("any", "1", "2", "3")
	behind := p.need("if")
	x.If = p.condition()
	p.expect(spare(x.If, api.MaxCondNodes, api.MaxCondDepth) >= 0, api.ErrLimit, behind)
	p.rules.List = append(p.rules.List, x)
}

// name reads the name of a rule.
func (p *parser) name() string {
	t := p.next()
	if !isWord(t.text) {
		panic(p.fault(api.ErrForm, t))
	}
	p.expect(!p.names[t.text], api.ErrTwice, t)
	p.names[t.text] = true
	return t.text
}

func (p *parser) condition() api.Cond { return p.joined(api.CondOr, "or", p.term) }

func (p *parser) term() api.Cond { return p.joined(api.CondAnd, "and", p.factor) }

// joined reads one or more parts with a word between them.
func (p *parser) joined(op uint8, word string, part func() api.Cond) api.Cond {
	list := []api.Cond{part()}
	for p.tokens[0].text == word {
		p.next()
		next := part()
		list = append(list, next)
	}
	if len(list) == 1 {
		return list[0]
	}
	return api.Cond{Op: op, Of: list}
}

func (p *parser) factor() api.Cond {
	t := p.next()
	switch t.text {
	case "not":
		return api.Cond{Op: api.CondNot, Of: []api.Cond{p.factor()}}
	case "(":
		c := p.condition()
		p.need(")")
		return c
	case "always":
		return api.Cond{Op: api.CondAlways}
	case "room":
		return api.Cond{Op: api.CondRoom, N: p.number(1, api.MaxRooms)}
	case "days":
		if p.choose("<", ">=") == 0 {
			return api.Cond{Op: api.CondBefore, N: p.number(0, api.MaxDay)}
		}
		return api.Cond{Op: api.CondSince, N: p.number(0, api.MaxDay)}
	case "claim":
		return api.Cond{Op: api.CondClaim}
	case "addressees":
		return api.Cond{Op: api.CondTo, N: p.choose(leftWords()...)}
	case "senders":
		return api.Cond{Op: api.CondFrom, N: p.choose(leftWords()...)}
	}
	panic(p.fault(api.ErrForm, t))
}

// leftWords returns the words for LeftNone, LeftOne and LeftMany.
func leftWords() []string { return []string{"none", "one", "many"} }
