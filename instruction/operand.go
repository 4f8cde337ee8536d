package instruction

import "strconv"

// kind is what the table has at an operand's place.
type kind int

const (
	kindA kind = iota
	kindAB
	kindC
	kindDPTR
	kindAtADPTR
	kindAtAPC
	kindAtDPTR
	kindAtR
	kindR
	kindByte
	kindWord
	kindDir
	kindBit
	kindNotBit
	kindAddr
	kindRel
	kindPage
	kindCount
)

func kindsByName() map[string]kind {
	return map[string]kind{
		"A":       kindA,
		"AB":      kindAB,
		"C":       kindC,
		"DPTR":    kindDPTR,
		"@A+DPTR": kindAtADPTR,
		"@A+PC":   kindAtAPC,
		"@DPTR":   kindAtDPTR,
		"@R":      kindAtR,
		"R":       kindR,
		"#byte":   kindByte,
		"#word":   kindWord,
		"dir":     kindDir,
		"bit":     kindBit,
		"/bit":    kindNotBit,
		"addr":    kindAddr,
		"rel":     kindRel,
		"page":    kindPage,
	}
}

// way is what operands of one kind have in common: what they add behind the
// code, as it is read back, and how they are written in a line.
type way struct {
	adds    func(*reading) uint16
	written func(operand) string
}

func ways() [kindCount]way {
	return [kindCount]way{
		kindA:       {(*reading).nothing, operand.itself},
		kindAB:      {(*reading).nothing, operand.itself},
		kindC:       {(*reading).nothing, operand.itself},
		kindDPTR:    {(*reading).nothing, operand.itself},
		kindAtADPTR: {(*reading).nothing, operand.itself},
		kindAtAPC:   {(*reading).nothing, operand.itself},
		kindAtDPTR:  {(*reading).nothing, operand.itself},
		kindAtR:     {(*reading).nothing, operand.numbered},
		kindR:       {(*reading).nothing, operand.numbered},
		kindByte:    {(*reading).oneByte, operand.byteBehindHash},
		kindWord:    {(*reading).twoBytes, operand.wordBehindHash},
		kindDir:     {(*reading).oneByte, operand.asByte},
		kindBit:     {(*reading).oneByte, operand.asByte},
		kindNotBit:  {(*reading).oneByte, operand.byteBehindSlash},
		kindAddr:    {(*reading).twoBytes, operand.asWord},
		kindRel:     {(*reading).oneByte, operand.nearPlace},
		kindPage:    {(*reading).oneByte, operand.placeInPage},
	}
}

// reading goes through the bytes behind a code, operand by operand.
type reading struct {
	rest  string
	short bool
}

func (r *reading) nothing() uint16 { return 0 }

func (r *reading) oneByte() uint16 {
	if r.rest == "" {
		r.short = true
		return 0
	}
	first := r.rest[0]
	r.rest = r.rest[1:]
	return uint16(first)
}

func (r *reading) twoBytes() uint16 {
	high := r.oneByte()
	low := r.oneByte()
	return high<<8 | low
}

// operand is all that the writing of an operand hangs on.
type operand struct {
	kind     kind
	name     string // of the kind, as the table has it
	codeBits byte   // the code's bits that are an operand's own
	added    uint16 // the number in the bytes that it added
	behind   uint16 // the place behind its instruction
}

func (o operand) itself() string { return o.name }

func (o operand) numbered() string { return o.name + strconv.Itoa(int(o.codeBits)) }

func (o operand) asByte() string { return hex(o.added, 2) }

func (o operand) asWord() string { return hex(o.added, 4) }

func (o operand) byteBehindHash() string { return "#" + o.asByte() }

func (o operand) wordBehindHash() string { return "#" + o.asWord() }

func (o operand) byteBehindSlash() string { return "/" + o.asByte() }

func (o operand) nearPlace() string {
	distance := int8(o.added)
	return hex(o.behind+uint16(distance), 4)
}

func (o operand) placeInPage() string {
	page := o.behind & 0xF800
	return hex(page|uint16(o.codeBits)<<3|o.added, 4)
}

func hex(number uint16, count int) string {
	const digits = "0123456789ABCDEF"
	text := make([]byte, count)
	for i := count - 1; i >= 0; i-- {
		text[i] = digits[number%16]
		number /= 16
	}
	return "0x" + string(text)
}
