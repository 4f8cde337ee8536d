package instruction

// MaxSize is how many bytes an instruction has at most.
const MaxSize = 3

// Instruction is one of the table, whose operands still lack their numbers.
type Instruction struct {
	code  byte
	kinds []Kind
	size  int
}

func newInstruction(code byte, operands []operand) Instruction {
	made := Instruction{code: code}
	for _, o := range operands {
		made.kinds = append(made.kinds, o.kind)
	}
	// Which bytes are read doesn't matter here, only how many are.
	var anyBytes [MaxSize]byte
	made.size, _ = readOperands(operands, string(anyBytes[:]))
	return made
}

// Size gives how many bytes the instruction has.
func (i Instruction) Size() int { return i.size }

// Bytes gives the instruction's bytes at a place, with a number for each
// operand, and whether all these numbers may stand there.
func (i Instruction) Bytes(numbers []int, at int) ([]byte, bool) {
	if i.code == movDirDir {
		numbers = []int{numbers[1], numbers[0]}
	}
	table := ways()
	l := laying{code: i.code, behind: uint16(at) + uint16(i.size)}
	for n, k := range i.kinds {
		table[k].adds(&l, numbers[n])
	}
	return append([]byte{l.code}, l.added...), !l.wrong
}
