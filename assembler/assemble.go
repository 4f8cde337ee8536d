// Package assembler makes images out of sources.
package assembler

import (
	"slices"
	"strings"

	"burnish/api"
	"burnish/image"
)

// fault is what the assembler gives up with, wherever it is; only Assemble
// sees it.
type fault struct {
	errno api.Errno
	line  int
}

// assembler has what is known of a source so far.
type assembler struct {
	image api.Image
	names map[string]int
	place int
}

// Assemble gives a source's image, or the first thing that is wrong, and its
// line.
func Assemble(source string) (made api.Image, errno api.Errno, line int) {
	if len(source) > api.MaxSource {
		return api.Image{}, api.ErrLong, 0
	}
	defer func() {
		caught := recover()
		if caught == nil {
			return
		}
		own, isOwn := caught.(fault)
		if !isOwn {
			panic(caught)
		}
		made, errno, line = api.Image{}, own.errno, own.line
	}()
	a := assembler{image: image.Blank(), names: map[string]int{}}
	for _, s := range a.readAll(source) {
		a.fill(s)
	}
	return a.image, api.OK, 0
}

// readAll reads the lines for the first time: behind it all names and places
// are known.
func (a *assembler) readAll(source string) []statement {
	var statements []statement
	parser := newParser()
	for i, text := range strings.Split(source, "\n") {
		s := parser.parse(text, i+1)
		s.place = a.place
		a.settle(s)
		statements = append(statements, s)
	}
	return statements
}

// settle asks for what may be wrong in the order in which the errors are
// named.
func (a *assembler) settle(s statement) {
	a.checkUsed(s)
	a.checkGiven(s)
	if s.hasTooGreatNumber() {
		panic(fault{api.ErrRange, s.line})
	}
	if s.label != "" {
		a.names[s.label] = a.place
	}
	switch s.task {
	case taskOrg:
		a.place = a.number(s, s.values[0], 0, image.Size-1)
	case taskDS:
		room := image.Size - a.place
		a.place += a.number(s, s.values[0], 0, room)
	case taskEqu:
		a.names[s.name] = a.number(s, s.values[0], -million, million)
	default:
		a.lay(s)
	}
}

func (a *assembler) checkUsed(s statement) {
	for _, name := range slices.Concat(s.given(), s.used()) {
		if len(name) > api.MaxName {
			panic(fault{api.ErrName, s.line})
		}
	}
	if !s.isDoneAtOnce() {
		return
	}
	for _, name := range s.used() {
		if name != s.label && !a.knows(name) {
			panic(fault{api.ErrName, s.line})
		}
	}
}

func (a *assembler) checkGiven(s statement) {
	given := s.given()
	for i, name := range given {
		if a.knows(name) || slices.Contains(given[:i], name) {
			panic(fault{api.ErrTwice, s.line})
		}
	}
	if len(a.names)+len(given) > api.MaxLabels {
		panic(fault{api.ErrLabels, s.line})
	}
}

func (a *assembler) knows(name string) bool {
	_, known := a.names[name]
	return known
}

// lay takes the room for a statement's bytes; what they are is known only
// when all names are.
func (a *assembler) lay(s statement) {
	behind := a.place + s.size()
	if behind > image.Size {
		panic(fault{api.ErrRange, s.line})
	}
	room := a.image.Laid[a.place:behind]
	if slices.Contains(room, true) {
		panic(fault{api.ErrOverlap, s.line})
	}
	for i := range room {
		room[i] = true
	}
	if s.task == taskInstruction {
		a.image.Starts[a.place] = true
	}
	a.place = behind
}

// fill puts a statement's bytes where room was taken for them.
func (a *assembler) fill(s statement) {
	if s.size() == 0 {
		return
	}
	for _, name := range s.used() {
		if !a.knows(name) {
			panic(fault{api.ErrName, s.line})
		}
	}
	copy(a.image.Bytes[s.place:], a.bytes(s))
}

func (a *assembler) bytes(s statement) []byte {
	switch s.task {
	case taskDB:
		return a.dataBytes(s)
	case taskDW:
		return a.dataWords(s)
	}
	var numbers []int
	for _, value := range s.values {
		numbers = append(numbers, a.number(s, value, -million, million))
	}
	bytes, right := s.means.Bytes(numbers, s.place)
	if !right {
		panic(fault{api.ErrRange, s.line})
	}
	return bytes
}

func (a *assembler) dataBytes(s statement) []byte {
	var bytes []byte
	for _, value := range s.values {
		number := a.number(s, value, -128, 255)
		bytes = append(bytes, byte(number))
	}
	return bytes
}

func (a *assembler) dataWords(s statement) []byte {
	var bytes []byte
	for _, value := range s.values {
		number := a.number(s, value, -32768, 65535)
		bytes = append(bytes, byte(number>>8), byte(number))
	}
	return bytes
}

// number gives what an expression of a statement comes to.
func (a *assembler) number(s statement, e expression, lowest, highest int) int {
	sum, right := e.value(a.names, s.place)
	if !right || sum < lowest || sum > highest {
		panic(fault{api.ErrRange, s.line})
	}
	return sum
}
