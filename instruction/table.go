package instruction

import "strings"

// row is an entry of the table of codes. The bits of free belong to an
// operand: to the number of @R or R, or to the place that page means.
type row struct {
	code, free byte
	text       string
}

// movDirDir is the one code whose second operand adds its byte first.
const movDirDir = 0x85

// rows stands as the document's table does, so that the two can be held
// against each other; A5 is missing there too.
func rows() []row {
	return []row{
		{0x00, 0, "NOP"}, {0x02, 0, "LJMP addr"}, {0x03, 0, "RR A"},
		{0x04, 0, "INC A"}, {0x05, 0, "INC dir"}, {0x06, 1, "INC @R"},
		{0x08, 7, "INC R"}, {0x10, 0, "JBC bit,rel"}, {0x12, 0, "LCALL addr"},
		{0x13, 0, "RRC A"}, {0x14, 0, "DEC A"}, {0x15, 0, "DEC dir"},
		{0x16, 1, "DEC @R"}, {0x18, 7, "DEC R"}, {0x20, 0, "JB bit,rel"},
		{0x22, 0, "RET"}, {0x23, 0, "RL A"}, {0x24, 0, "ADD A,#byte"},
		{0x25, 0, "ADD A,dir"}, {0x26, 1, "ADD A,@R"}, {0x28, 7, "ADD A,R"},
		{0x30, 0, "JNB bit,rel"}, {0x32, 0, "RETI"}, {0x33, 0, "RLC A"},
		{0x34, 0, "ADDC A,#byte"}, {0x35, 0, "ADDC A,dir"}, {0x36, 1, "ADDC A,@R"},
		{0x38, 7, "ADDC A,R"}, {0x40, 0, "JC rel"}, {0x42, 0, "ORL dir,A"},
		{0x43, 0, "ORL dir,#byte"}, {0x44, 0, "ORL A,#byte"}, {0x45, 0, "ORL A,dir"},
		{0x46, 1, "ORL A,@R"}, {0x48, 7, "ORL A,R"}, {0x50, 0, "JNC rel"},
		{0x52, 0, "ANL dir,A"}, {0x53, 0, "ANL dir,#byte"}, {0x54, 0, "ANL A,#byte"},
		{0x55, 0, "ANL A,dir"}, {0x56, 1, "ANL A,@R"}, {0x58, 7, "ANL A,R"},
		{0x60, 0, "JZ rel"}, {0x62, 0, "XRL dir,A"}, {0x63, 0, "XRL dir,#byte"},
		{0x64, 0, "XRL A,#byte"}, {0x65, 0, "XRL A,dir"}, {0x66, 1, "XRL A,@R"},
		{0x68, 7, "XRL A,R"}, {0x70, 0, "JNZ rel"}, {0x72, 0, "ORL C,bit"},
		{0x73, 0, "JMP @A+DPTR"}, {0x74, 0, "MOV A,#byte"}, {0x75, 0, "MOV dir,#byte"},
		{0x76, 1, "MOV @R,#byte"}, {0x78, 7, "MOV R,#byte"}, {0x80, 0, "SJMP rel"},
		{0x82, 0, "ANL C,bit"}, {0x83, 0, "MOVC A,@A+PC"}, {0x84, 0, "DIV AB"},
		{0x85, 0, "MOV dir,dir"}, {0x86, 1, "MOV dir,@R"}, {0x88, 7, "MOV dir,R"},
		{0x90, 0, "MOV DPTR,#word"}, {0x92, 0, "MOV bit,C"}, {0x93, 0, "MOVC A,@A+DPTR"},
		{0x94, 0, "SUBB A,#byte"}, {0x95, 0, "SUBB A,dir"}, {0x96, 1, "SUBB A,@R"},
		{0x98, 7, "SUBB A,R"}, {0xA0, 0, "ORL C,/bit"}, {0xA2, 0, "MOV C,bit"},
		{0xA3, 0, "INC DPTR"}, {0xA4, 0, "MUL AB"}, {0xA6, 1, "MOV @R,dir"},
		{0xA8, 7, "MOV R,dir"}, {0xB0, 0, "ANL C,/bit"}, {0xB2, 0, "CPL bit"},
		{0xB3, 0, "CPL C"}, {0xB4, 0, "CJNE A,#byte,rel"}, {0xB5, 0, "CJNE A,dir,rel"},
		{0xB6, 1, "CJNE @R,#byte,rel"}, {0xB8, 7, "CJNE R,#byte,rel"}, {0xC0, 0, "PUSH dir"},
		{0xC2, 0, "CLR bit"}, {0xC3, 0, "CLR C"}, {0xC4, 0, "SWAP A"},
		{0xC5, 0, "XCH A,dir"}, {0xC6, 1, "XCH A,@R"}, {0xC8, 7, "XCH A,R"},
		{0xD0, 0, "POP dir"}, {0xD2, 0, "SETB bit"}, {0xD3, 0, "SETB C"},
		{0xD4, 0, "DA A"}, {0xD5, 0, "DJNZ dir,rel"}, {0xD6, 1, "XCHD A,@R"},
		{0xD8, 7, "DJNZ R,rel"}, {0xE0, 0, "MOVX A,@DPTR"}, {0xE2, 1, "MOVX A,@R"},
		{0xE4, 0, "CLR A"}, {0xE5, 0, "MOV A,dir"}, {0xE6, 1, "MOV A,@R"},
		{0xE8, 7, "MOV A,R"}, {0xF0, 0, "MOVX @DPTR,A"}, {0xF2, 1, "MOVX @R,A"},
		{0xF4, 0, "CPL A"}, {0xF5, 0, "MOV dir,A"}, {0xF6, 1, "MOV @R,A"},
		{0xF8, 7, "MOV R,A"}, {0x01, 0xE0, "AJMP page"}, {0x11, 0xE0, "ACALL page"},
	}
}

func find(code byte) (row, bool) {
	for _, r := range rows() {
		if code&^r.free == r.code {
			return r, true
		}
	}
	return row{}, false
}

// parts gives the instruction's name and its operands, with what is known of
// them by the code alone.
func (r row) parts(code byte, kinds map[string]Kind) (string, []operand) {
	name, list, some := strings.Cut(r.text, " ")
	if !some {
		return name, nil
	}
	var operands []operand
	for _, text := range strings.Split(list, ",") {
		operands = append(operands, operand{kind: kinds[text], name: text, codeBits: code & r.free})
	}
	return name, operands
}
