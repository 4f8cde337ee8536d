package instruction

import "strconv"

// Kind is what the table has at an operand's place.
type Kind int

const (
	kindA Kind = iota
	kindAB
	kindC
	kindDPTR
	kindAtADPTR
	kindAtAPC
	kindAtDPTR
	kindAtR
	kindR
	kindByte
	kindWord
	kindDir
	kindBit
	kindNotBit
	kindAddr
	kindRel
	kindPage
	kindCount
)

func kindsByName() map[string]Kind {
	return map[string]Kind{
		"A":       kindA,
		"AB":      kindAB,
		"C":       kindC,
		"DPTR":    kindDPTR,
		"@A+DPTR": kindAtADPTR,
		"@A+PC":   kindAtAPC,
		"@DPTR":   kindAtDPTR,
		"@R":      kindAtR,
		"R":       kindR,
		"#byte":   kindByte,
		"#word":   kindWord,
		"dir":     kindDir,
		"bit":     kindBit,
		"/bit":    kindNotBit,
		"addr":    kindAddr,
		"rel":     kindRel,
		"page":    kindPage,
	}
}

// way is what operands of one kind have in common: what they add to an
// instruction's bytes, how that is read back, and how they are written in a
// line.
type way struct {
	adds    func(*laying, int)
	read    func(*reading) uint16
	written func(operand) string
}

func ways() [kindCount]way {
	return [kindCount]way{
		kindA:       {(*laying).nothing, (*reading).nothing, operand.itself},
		kindAB:      {(*laying).nothing, (*reading).nothing, operand.itself},
		kindC:       {(*laying).nothing, (*reading).nothing, operand.itself},
		kindDPTR:    {(*laying).nothing, (*reading).nothing, operand.itself},
		kindAtADPTR: {(*laying).nothing, (*reading).nothing, operand.itself},
		kindAtAPC:   {(*laying).nothing, (*reading).nothing, operand.itself},
		kindAtDPTR:  {(*laying).nothing, (*reading).nothing, operand.itself},
		kindAtR:     {(*laying).register, (*reading).nothing, operand.numbered},
		kindR:       {(*laying).register, (*reading).nothing, operand.numbered},
		kindByte:    {(*laying).shortNumber, (*reading).oneByte, operand.byteBehindHash},
		kindWord:    {(*laying).longNumber, (*reading).twoBytes, operand.wordBehindHash},
		kindDir:     {(*laying).address, (*reading).oneByte, operand.asByte},
		kindBit:     {(*laying).address, (*reading).oneByte, operand.asByte},
		kindNotBit:  {(*laying).address, (*reading).oneByte, operand.byteBehindSlash},
		kindAddr:    {(*laying).place, (*reading).twoBytes, operand.asWord},
		kindRel:     {(*laying).nearPlace, (*reading).oneByte, operand.nearPlace},
		kindPage:    {(*laying).placeInPage, (*reading).oneByte, operand.placeInPage},
	}
}

// reading goes through the bytes behind a code, operand by operand.
type reading struct {
	rest  string
	short bool
}

func (r *reading) nothing() uint16 { return 0 }

func (r *reading) oneByte() uint16 {
	if r.rest == "" {
		r.short = true
		return 0
	}
	first := r.rest[0]
	r.rest = r.rest[1:]
	return uint16(first)
}

func (r *reading) twoBytes() uint16 {
	high := r.oneByte()
	low := r.oneByte()
	return high<<8 | low
}

// operand is all that the writing of an operand hangs on.
type operand struct {
	kind     Kind
	name     string // of the kind, as the table has it
	codeBits byte   // the code's bits that are an operand's own
	added    uint16 // the number in the bytes that it added
	behind   uint16 // the place behind its instruction
}

func (o operand) itself() string { return o.name }

func (o operand) numbered() string { return o.name + strconv.Itoa(int(o.codeBits)) }

func (o operand) asByte() string { return "0x" + Hex(o.added, 2) }

func (o operand) asWord() string { return "0x" + Hex(o.added, 4) }

func (o operand) byteBehindHash() string { return "#" + o.asByte() }

func (o operand) wordBehindHash() string { return "#" + o.asWord() }

func (o operand) byteBehindSlash() string { return "/" + o.asByte() }

func (o operand) nearPlace() string {
	distance := int8(o.added)
	return "0x" + Hex(o.behind+uint16(distance), 4)
}

// The highest five bits of a place tell its page.
const (
	pageBits     = 0xF800
	placesOfPage = 0x0800
)

func (o operand) placeInPage() string {
	page := o.behind & pageBits
	return "0x" + Hex(page|uint16(o.codeBits)<<3|o.added, 4)
}

// Hex gives so many hexadecimal digits of a number, as listings have them.
func Hex(number uint16, count int) string {
	const digits = "0123456789ABCDEF"
	text := make([]byte, count)
	for i := count - 1; i >= 0; i-- {
		text[i] = digits[number%16]
		number /= 16
	}
	return string(text)
}
