package instruction

import "strconv"

// The kinds as which a source's operands are looked up where the instruction
// has yet to tell which of several is meant.
const (
	Hash  = kindByte   // or #word
	Slash = kindNotBit // no other
	Plain = kindDir    // or bit, addr, rel, page
)

const maxOperands = 3

// Book finds instructions by what a source has of them.
type Book struct {
	counts       map[string]int
	instructions map[entry]Instruction
	fixed        map[string]Fixed
}

// entry is all by which instructions of a book differ.
type entry struct {
	name  string
	count int
	kinds [maxOperands]Kind
}

// Fixed is an operand that is itself; Number is that of R and @R.
type Fixed struct {
	Kind   Kind
	Number int
}

// NewBook makes its maps anew: whoever asks for much keeps the book.
func NewBook() Book {
	book := Book{
		counts:       map[string]int{},
		instructions: map[entry]Instruction{},
		fixed:        fixedOperands(),
	}
	kinds := kindsByName()
	for _, r := range rows() {
		name, operands := r.parts(r.code, kinds)
		made := newInstruction(r.code, operands)
		book.counts[name]++
		book.instructions[newEntry(name, made.kinds)] = made
	}
	return book
}

func fixedOperands() map[string]Fixed {
	fixed := map[string]Fixed{}
	for name, k := range kindsByName() {
		switch k {
		case kindA, kindAB, kindC, kindDPTR, kindAtADPTR, kindAtAPC, kindAtDPTR:
			fixed[name] = Fixed{Kind: k}
		case kindAtR:
			addNumbered(fixed, name, k, 2)
		case kindR:
			addNumbered(fixed, name, k, 8)
		}
	}
	return fixed
}

func addNumbered(fixed map[string]Fixed, name string, k Kind, count int) {
	for number := range count {
		fixed[name+strconv.Itoa(number)] = Fixed{Kind: k, Number: number}
	}
}

func newEntry(name string, kinds []Kind) entry {
	e := entry{name: name, count: len(kinds)}
	for i, k := range kinds {
		e.kinds[i] = k.lookedUp()
	}
	return e
}

func (k Kind) lookedUp() Kind {
	switch k {
	case kindWord:
		return Hash
	case kindBit, kindAddr, kindRel, kindPage:
		return Plain
	}
	return k
}

// HasName tells whether a name (in capitals) is that of an instruction.
func (b Book) HasName(name string) bool { return b.counts[name] > 0 }

// Fixed finds an operand by its text, in capitals and without blanks.
func (b Book) Fixed(text string) (Fixed, bool) {
	fixed, known := b.fixed[text]
	return fixed, known
}

// Find gives the instruction of that name that fits the kinds of its operands.
func (b Book) Find(name string, kinds []Kind) (Instruction, bool) {
	if len(kinds) > maxOperands {
		return Instruction{}, false
	}
	found, known := b.instructions[newEntry(name, kinds)]
	return found, known
}
