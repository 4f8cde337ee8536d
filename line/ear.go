package line

import "burnish/api"

type mode int

const (
	// Nothing was begun, or what was begun is spoilt: either way only a border
	// helps.
	waiting mode = iota
	within
	escaped
)

// Ear hears frames. One that has heard nothing is its zero value. What it
// keeps is an array, so that it stays as short as a message may be, whatever
// it hears.
type Ear struct {
	mode  mode
	begun [api.MaxFrame + checkSize]byte
	count int // of the bytes that were begun
}

// Hear gives the messages that are whole by these bytes, in order.
func (e *Ear) Hear(bytes string) []string {
	var messages []string
	for i := range len(bytes) {
		if bytes[i] != border {
			e.take(bytes[i])
			continue
		}
		if e.isWhole() {
			messages = append(messages, string(e.begun[:e.count-checkSize]))
		}
		e.mode, e.count = within, 0
	}
	return messages
}

func (e *Ear) isWhole() bool { return e.mode == within && hasCheck(e.begun[:e.count]) }

func (e *Ear) take(b byte) {
	switch {
	case e.mode == waiting:
	case e.mode == escaped && needsEscape(b^changed):
		e.mode = within
		e.keep(b ^ changed)
	case e.mode == escaped:
		e.mode = waiting
	case b == escape:
		e.mode = escaped
	default:
		e.keep(b)
	}
}

func (e *Ear) keep(b byte) {
	if e.count == len(e.begun) {
		e.mode = waiting
		return
	}
	e.begun[e.count] = b
	e.count++
}
