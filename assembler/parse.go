package assembler

import (
	"strings"

	"burnish/api"
	"burnish/instruction"
)

// parser makes statements out of lines, and gives up on the first that is
// none.
type parser struct {
	book       instruction.Book
	directives map[string]task
	line       int
	tokens     []token // those of the line that are still to be read
}

func newParser() *parser {
	return &parser{book: instruction.NewBook(), directives: directives()}
}

func (p *parser) giveUp() { panic(fault{api.ErrSyntax, p.line}) }

func (p *parser) parse(text string, line int) statement {
	p.line = line
	text, _, _ = strings.Cut(text, ";")
	tokens, right := scan(text)
	if !right {
		p.giveUp()
	}
	p.tokens = tokens
	s := statement{line: line, label: p.label()}
	p.readTask(&s)
	if !p.isAtEnd() {
		p.giveUp()
	}
	return s
}

func (p *parser) label() string {
	if p.isAtEnd() || p.tokens[1].text != ":" {
		return ""
	}
	name := p.name()
	p.skip(":")
	return name
}

func (p *parser) readTask(s *statement) {
	if p.isAtEnd() {
		return
	}
	first := p.word()
	t, isDirective := p.directives[first]
	switch {
	case p.book.HasName(first):
		p.readInstruction(s, first)
	case isDirective && t != taskEqu:
		s.task = t
		p.readValues(s)
	default:
		s.task, s.name = taskEqu, p.checkName(first)
		if p.directives[p.word()] != taskEqu {
			p.giveUp()
		}
		p.readValues(s)
	}
}

func (p *parser) readValues(s *statement) {
	s.values = append(s.values, p.expression())
	if s.isDoneAtOnce() {
		return
	}
	for p.skip(",") {
		s.values = append(s.values, p.expression())
	}
}

func (p *parser) readInstruction(s *statement, name string) {
	var kinds []instruction.Kind
	for more := !p.isAtEnd(); more; more = p.skip(",") {
		kind, value := p.operand()
		kinds = append(kinds, kind)
		s.values = append(s.values, value)
	}
	means, known := p.book.Find(name, kinds)
	if !known {
		p.giveUp()
	}
	s.task, s.means = taskInstruction, means
}

func (p *parser) operand() (instruction.Kind, expression) {
	switch {
	case p.skip("#"):
		return instruction.Hash, p.expression()
	case p.skip("/"):
		return instruction.Slash, p.expression()
	case p.skip("@"):
		return p.behindAt()
	}
	if fixed, known := p.book.Fixed(p.tokens[0].text); known {
		p.next()
		return fixed.Kind, registerNumber(fixed)
	}
	return instruction.Plain, p.expression()
}

func (p *parser) behindAt() (instruction.Kind, expression) {
	text := "@" + p.word()
	if p.skip("+") {
		text += "+" + p.word()
	}
	fixed, known := p.book.Fixed(text)
	if !known {
		p.giveUp()
	}
	return fixed.Kind, registerNumber(fixed)
}

// registerNumber lets an operand without an expression have its number as the
// others have theirs.
func registerNumber(fixed instruction.Fixed) expression {
	return expression{term{number: fixed.Number}}
}

func (p *parser) expression() expression {
	e := expression{p.term()}
	for {
		minus := p.skip("-")
		if !minus && !p.skip("+") {
			return e
		}
		t := p.term()
		t.minus = minus
		e = append(e, t)
	}
}

func (p *parser) term() term {
	switch {
	case p.skip("$"):
		return term{here: true}
	case p.tokens[0].kind == tokenNumber:
		return term{number: p.next().number}
	}
	return term{name: p.name()}
}

func (p *parser) name() string { return p.checkName(p.word()) }

func (p *parser) checkName(text string) string {
	_, isDirective := p.directives[text]
	_, isOperand := p.book.Fixed(text)
	if isDirective || isOperand || p.book.HasName(text) || text == "PC" {
		p.giveUp()
	}
	return text
}

func (p *parser) word() string {
	if p.tokens[0].kind != tokenWord {
		p.giveUp()
	}
	return p.next().text
}

func (p *parser) isAtEnd() bool { return p.tokens[0].kind == tokenEnd }

func (p *parser) next() token {
	first := p.tokens[0]
	p.tokens = p.tokens[1:]
	return first
}

// skip leaves a sign behind, if it comes next.
func (p *parser) skip(text string) bool {
	if p.tokens[0].text != text {
		return false
	}
	p.next()
	return true
}
