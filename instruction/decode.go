// Package instruction knows the instructions of the 8051: their codes, what
// their operands add, and the lines that list them.
package instruction

import "strings"

// Decode gives the line of the instruction with which the bytes begin, and
// how many bytes it has; nothing and 0 if no whole one begins there.
func Decode(code string, at int) (string, int) {
	if code == "" {
		return "", 0
	}
	r, known := find(code[0])
	if !known {
		return "", 0
	}
	name, operands := r.parts(code[0], kindsByName())
	size, whole := readOperands(operands, code)
	if !whole {
		return "", 0
	}
	if r.code == movDirDir {
		operands[0].added, operands[1].added = operands[1].added, operands[0].added
	}
	behind := uint16(at) + uint16(size)
	return line(name, operands, behind), size
}

// readOperands fills in what each operand added, in the order of the bytes,
// and gives the size of the instruction, and whether all its bytes are there.
func readOperands(operands []operand, code string) (int, bool) {
	table := ways()
	r := reading{rest: code[1:]}
	for i := range operands {
		operands[i].added = table[operands[i].kind].read(&r)
	}
	return len(code) - len(r.rest), !r.short
}

func line(name string, operands []operand, behind uint16) string {
	if len(operands) == 0 {
		return name
	}
	table := ways()
	written := make([]string, len(operands))
	for i, o := range operands {
		o.behind = behind
		written[i] = table[o.kind].written(o)
	}
	return name + " " + strings.Join(written, ",")
}
