package burnish_test

import (
	"fmt"
	"math/rand"
	"strings"
	"testing"

	"burnish/api"
	"burnish/burnish"
)

// shapes are instructions with every kind of operand that adds something, and
// how many bytes each has.
var shapes = []struct {
	text string
	size int
}{
	{"NOP", 1}, {"MUL AB", 1}, {"JMP @A+DPTR", 1}, {"XCHD A,@R1", 1}, {"SJMP rel", 2}, {"DJNZ R7,rel", 2}, {"DJNZ dir,rel", 3},
	{"JB bit,rel", 3}, {"CJNE A,#byte,rel", 3}, {"CJNE A,dir,rel", 3}, {"CJNE @R0,#byte,rel", 3}, {"AJMP page", 2}, {"ACALL page", 2},
	{"LJMP addr", 3}, {"LCALL addr", 3}, {"MOV DPTR,#word", 3}, {"MOV A,#byte", 2}, {"MOV dir,#byte", 3}, {"MOV dir,dir", 3},
	{"MOV R3,dir", 2}, {"MOV bit,C", 2}, {"ORL C,/bit", 2}, {"ANL C,/bit", 2}, {"ORL dir,A", 2}, {"CPL bit", 2}, {"PUSH dir", 2},
}

// author writes a source, and the listing that is meant by it.
type author struct {
	*rand.Rand
	names  map[string]int
	known  []string
	source []string
	lines  []string
}

func (a *author) name(text string, value int) {
	a.names[text] = value
	a.known = append(a.known, text)
}

// number writes a value in one of the ways there are, at a place.
func (a *author) number(value, place int) string {
	sum := func(text string, base int) string {
		if value >= base {
			return fmt.Sprintf("%s + %d", text, value-base)
		}
		return fmt.Sprintf("%s-0x%x", text, base-value)
	}
	switch a.Intn(5) {
	case 0:
		return fmt.Sprintf("%d", value)
	case 1:
		return fmt.Sprintf("0x%0*X", 1+a.Intn(4), value)
	case 2:
		return sum("$", place)
	case 3:
		return sum("65535 - 0xfFfF", 0)
	}
	name := a.known[a.Intn(len(a.known))]
	return sum(name, a.names[name])
}

// operand gives what is written and what is listed of a kind.
func (a *author) operand(kind string, place, behind int) (string, string) {
	value, digits := 0, 4
	switch kind {
	case "rel":
		low, high := max(0, behind-128), behind+127
		value = []int{low, high, low + a.Intn(high-low+1)}[a.Intn(3)]
	case "page":
		value = a.Intn(2048)
	case "addr", "word":
		value = a.Intn(65536)
	default:
		value, digits = a.Intn(256), 2
	}
	return a.number(value, place), fmt.Sprintf("0x%0*X", digits, value)
}

func (a *author) instruction(text string, place, size int) {
	written, listed := text, text
	for _, kind := range []string{"rel", "page", "addr", "word", "byte", "bit", "dir"} {
		for strings.Contains(listed, kind) {
			one, other := a.operand(kind, place, place+size)
			written, listed = strings.Replace(written, kind, one, 1), strings.Replace(listed, kind, other, 1)
		}
	}
	if a.Intn(2) == 0 {
		written = strings.ToLower(written)
	}
	a.source = append(a.source, fmt.Sprintf("l%d: %s", place, written))
	a.lines = append(a.lines, fmt.Sprintf("%04X %s", place, listed))
}

// write chooses the instructions first, so that their labels are known to all.
func (a *author) write() string {
	for i := range 10 {
		value := a.Intn(65536)
		a.name(fmt.Sprintf("equ_%d", i), value)
		a.source = append(a.source, fmt.Sprintf("Equ_%d EQU %d", i, value))
	}
	first := a.Intn(900)
	a.source = append(a.source, fmt.Sprintf("org %d", first))
	chosen := make([]int, a.Intn(25))
	place := first
	for i := range chosen {
		chosen[i] = a.Intn(len(shapes))
		a.name(fmt.Sprintf("l%d", place), place)
		place += shapes[chosen[i]].size
	}
	place = first
	for _, n := range chosen {
		a.instruction(shapes[n].text, place, shapes[n].size)
		place += shapes[n].size
	}
	return strings.Join(a.source, "\n")
}

// Whatever way its operands are written in, an instruction is listed as it was
// meant.
func TestWhatIsMeantIsListed(t *testing.T) {
	for seed := range int64(500) {
		a := &author{Rand: rand.New(rand.NewSource(seed)), names: map[string]int{}}
		source := a.write()
		image, errno, line := burnish.Assemble(source)
		if errno != api.OK {
			t.Fatalf("P11: run %d: %d in line %d, %q", seed, errno, line, a.source[line-1])
		}
		wantListing(t, image, a.lines...)
	}
}
