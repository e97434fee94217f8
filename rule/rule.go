// Package rule: the rules that the lines of a text are.
package rule

import (
	"rewrite/api"
	"rewrite/letter"
	"rewrite/scan"
)

// Rule: what is replaced, what replaces it, and what stands where it matches: what is replaced, with a word of the context behind it.
type Rule struct {
	From  string
	To    string
	Match Net
}

// Read: the rules of a text; or ErrLine and the number of the first line that is no rule; or ErrRules (P5).
func Read(s string) ([]Rule, int, api.Errno) {
	var rules []Rule
	count := 0
	for at := 0; at < len(s); {
		count++
		end := lineEnd(s, at)
		r, ok := readRule(s[at:end])
		if !ok || end == len(s) {
			return nil, count, api.ErrLine
		}
		// All lines are read, since a bad one beyond MaxRules is named first; but no more rules than that are kept.
		if count <= api.MaxRules {
			rules = append(rules, r)
		}
		at = end + 1
	}
	if count < 1 || count > api.MaxRules {
		return nil, 0, api.ErrRules
	}
	return rules, 0, api.OK
}

// lineEnd: where the next line feed stands, or the end of the text.
func lineEnd(s string, at int) int {
	for at < len(s) && s[at] != '\n' {
		at++
	}
	return at
}

func readRule(line string) (Rule, bool) {
	p := parser{in: scan.New(line)}
	from := p.in.Run(scan.Letters)
	p.in.Take('>')
	to := p.in.Run(scan.Said)
	if from == "" || len(from) > api.MaxSide || len(to) > api.MaxSide {
		return Rule{}, false
	}
	match := p.word(from)
	if p.in.Skip('/') {
		context := p.wholeContext()
		match = p.net.join(match, context)
	}
	if p.in.IsBad() || p.in.Left() > 0 {
		return Rule{}, false
	}
	p.net.whole = match
	return Rule{From: from, To: to, Match: p.net}, true
}

// parser: reads a rule, and makes its net on the way.
type parser struct {
	in  scan.Reader
	net Net
}

func (p *parser) word(w string) piece {
	whole := piece{empty: true}
	for i := 0; i < len(w); i++ {
		part := p.net.add(allOf(w[i : i+1]))
		whole = p.net.join(whole, part)
	}
	return whole
}

// wholeContext looks at the length first: it is what keeps the net small.
func (p *parser) wholeContext() piece {
	if p.in.Left() > api.MaxCtx {
		p.in.Fail()
		return piece{}
	}
	return p.context(0)
}

// context reads rows; depth is the number of brackets that are open.
func (p *parser) context(depth int) piece {
	whole := p.row(depth)
	for p.in.Skip('|') {
		row := p.row(depth)
		whole = either(whole, row)
	}
	return whole
}

func (p *parser) row(depth int) piece {
	whole := piece{empty: true}
	for !p.seesRowEnd() {
		part := p.part(depth)
		for p.in.Skip('*') {
			part = p.net.repeat(part)
		}
		whole = p.net.join(whole, part)
	}
	return whole
}

func (p *parser) seesRowEnd() bool {
	return p.in.IsBad() || p.in.Left() == 0 || p.in.Sees('|') || p.in.Sees(')')
}

func (p *parser) part(depth int) piece {
	if p.in.Sees('(') {
		return p.brackets(depth)
	}
	if p.in.Sees('[') {
		return p.letterSet()
	}
	if p.in.Skip('.') {
		return p.net.add(allBut(""))
	}
	c := p.in.Letter()
	return p.net.add(allOf(c))
}

func (p *parser) brackets(depth int) piece {
	if depth >= api.MaxDepth {
		p.in.Fail()
		return piece{}
	}
	p.in.Take('(')
	inner := p.context(depth + 1)
	p.in.Take(')')
	return inner
}

func (p *parser) letterSet() piece {
	p.in.Take('[')
	others := p.in.Skip('^')
	letters := p.in.Run(scan.Letters)
	p.in.Take(']')
	if letters == "" || !isRising(letters) {
		p.in.Fail()
	}
	if others {
		return p.net.add(allBut(letters))
	}
	return p.net.add(allOf(letters))
}

func isRising(w string) bool {
	for i := 1; i < len(w); i++ {
		if w[i-1] >= w[i] {
			return false
		}
	}
	return true
}

func allOf(letters string) [api.Letters]bool {
	var takes [api.Letters]bool
	for i := 0; i < len(letters); i++ {
		takes[letter.Number(letters[i])] = true
	}
	return takes
}

func allBut(letters string) [api.Letters]bool {
	takes := allOf(letters)
	for l := range takes {
		takes[l] = !takes[l]
	}
	return takes
}
