package circuits

import (
	"slices"

	"diagram/api"
)

// Expression has the words of an expr, without brackets, each behind what it is of: a & !b is a, b, !, &.
type Expression []string

// binding has the signs between two parts, what binds least first.
const binding = "|^&"

// parser turns words into an expression.
type parser struct {
	words []string // those that are still to come
	made  Expression
}

// parse gives the expression that the words are, where they are one.
func parse(words []string) (Expression, bool) {
	p := parser{words: words}
	ok := p.chain(binding, 0) && len(p.words) == 0
	return p.made, ok
}

// chain reads parts with the first of these signs between them; the others bind more. So deep it stands in brackets and !.
func (p *parser) chain(between string, deep int) bool {
	if between == "" {
		return p.single(deep)
	}
	sign, closer := between[:1], between[1:]
	if !p.chain(closer, deep) {
		return false
	}
	for p.take(sign) {
		if !p.chain(closer, deep) {
			return false
		}
		p.made = append(p.made, sign)
	}
	return true
}

// single reads what no sign parts.
func (p *parser) single(deep int) bool {
	switch {
	case p.take("!"):
		ok := deep < api.MaxDeep && p.single(deep+1)
		p.made = append(p.made, "!")
		return ok
	case p.take("("):
		return deep < api.MaxDeep && p.chain(binding, deep+1) && p.take(")")
	default:
		return p.value()
	}
}

// value reads a name or a digit.
func (p *parser) value() bool {
	if len(p.words) == 0 {
		return false
	}
	word := p.words[0]
	if !isName(word) && word != "0" && word != "1" {
		return false
	}
	p.made = append(p.made, word)
	p.words = p.words[1:]
	return true
}

// take goes past the next word, if it is that one.
func (p *parser) take(word string) bool {
	if len(p.words) == 0 || p.words[0] != word {
		return false
	}
	p.words = p.words[1:]
	return true
}

// names gives the names in an expression.
func (e Expression) names() []string {
	return slices.DeleteFunc(slices.Clone(e), func(word string) bool { return !isName(word) })
}
