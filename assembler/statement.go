package assembler

import "burnish/instruction"

// task is what a line asks for behind its label.
type task int

const (
	taskNothing task = iota
	taskOrg
	taskDB
	taskDW
	taskDS
	taskEqu
	taskInstruction
)

func directives() map[string]task {
	return map[string]task{
		"ORG": taskOrg,
		"DB":  taskDB,
		"DW":  taskDW,
		"DS":  taskDS,
		"EQU": taskEqu,
	}
}

// statement is a line that is right by its words and signs.
type statement struct {
	line   int
	place  int    // where it stands
	label  string // nothing, if it has none
	task   task
	name   string // the one that an EQU gives
	values []expression
	means  instruction.Instruction
}

// size gives how many bytes it lays.
func (s statement) size() int {
	switch s.task {
	case taskDB:
		return len(s.values)
	case taskDW:
		return 2 * len(s.values)
	case taskInstruction:
		return s.means.Size()
	}
	return 0
}

// isDoneAtOnce tells whether its names must be known by then.
func (s statement) isDoneAtOnce() bool {
	return s.task == taskOrg || s.task == taskDS || s.task == taskEqu
}

// given lists the names to which it gives a meaning.
func (s statement) given() []string {
	var names []string
	if s.label != "" {
		names = append(names, s.label)
	}
	if s.task == taskEqu {
		names = append(names, s.name)
	}
	return names
}

// used lists the names of which it needs the meaning.
func (s statement) used() []string {
	var names []string
	for _, value := range s.values {
		for _, t := range value {
			if t.name != "" {
				names = append(names, t.name)
			}
		}
	}
	return names
}

func (s statement) hasTooGreatNumber() bool {
	for _, value := range s.values {
		for _, t := range value {
			if t.number > greatest {
				return true
			}
		}
	}
	return false
}
