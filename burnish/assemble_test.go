package burnish_test

import (
	"fmt"
	"slices"
	"strings"
	"testing"

	"burnish/api"
	"burnish/burnish"
)

// laidIn tells an image's laid bytes, each run of them behind its place.
func laidIn(i api.Image) string {
	text := ""
	for at := range i.Laid {
		if !i.Laid[at] {
			continue
		}
		if at == 0 || !i.Laid[at-1] {
			text += fmt.Sprintf(" %d:", at)
		}
		text += fmt.Sprintf("%02X", i.Bytes[at])
	}
	return strings.TrimSpace(text)
}

func wantBytes(t *testing.T, source, want string) api.Image {
	t.Helper()
	image, errno, line := burnish.Assemble(source)
	if errno != api.OK || line != 0 {
		t.Errorf("P4: Assemble(%.60q): %d, %d, want %s", source, errno, line, want)
		return image
	}
	if len(image.Bytes) != 1024 || len(image.Laid) != 1024 || len(image.Starts) != 1024 {
		t.Fatalf("P4: Assemble(%.60q): lists of %d, %d, %d", source, len(image.Bytes), len(image.Laid), len(image.Starts))
	}
	if got := laidIn(image); got != want {
		t.Errorf("P4: Assemble(%.60q) = %s, want %s", source, got, want)
	}
	for at, laid := range image.Laid {
		if !laid && (image.Bytes[at] != 255 || image.Starts[at]) {
			t.Errorf("P4: Assemble(%.60q): nothing is laid at %d, but there is %d, %v", source, at, image.Bytes[at], image.Starts[at])
		}
	}
	return image
}

func wantFault(t *testing.T, source string, errno api.Errno, line int) {
	t.Helper()
	image, gotErrno, gotLine := burnish.Assemble(source)
	if gotErrno != errno || gotLine != line {
		t.Errorf("P4: Assemble(%.60q): %d, %d, want %d, %d", source, gotErrno, gotLine, errno, line)
	}
	if errno != api.OK && (len(image.Bytes) > 0 || len(image.Laid) > 0 || len(image.Starts) > 0) {
		t.Errorf("P1: Assemble(%.60q): an image beside error %d", source, gotErrno)
	}
}

func wantFaults(t *testing.T, errno api.Errno, lines ...string) {
	t.Helper()
	for _, line := range lines {
		wantFault(t, line, errno, 1)
		wantFault(t, "nop\n\n"+line+"\nnop", errno, 3)
	}
}

func TestAssembleExamples(t *testing.T) {
	wantBytes(t, "loop: djnz r2,loop", "0:DAFE")
	wantBytes(t, "x equ 3\nORG x+1\nmov a,#x-4 ; -1", "4:74FF")
	wantFault(t, "sjmp far", api.ErrName, 1)
	wantFault(t, "a: nop", api.ErrSyntax, 1)
}

func TestAssembleNothing(t *testing.T) {
	for _, source := range []string{"", " ", "\n", "\n\n\n", ";", "; x: mov a", "x:", "  x :  ; y", "x equ 5", "ds 1024", "org 1023", "ds 0\nx:\ny:"} {
		wantBytes(t, source, "")
	}
}

// Every line that Decode can give is a source's line too, and has those bytes.
func TestAssembleEveryInstruction(t *testing.T) {
	for code := range 256 {
		whole := string([]byte{byte(code), 0x1A, 0x3C})
		line, size := burnish.Decode(whole, 0x123)
		if code == 0xA5 {
			continue
		}
		want := fmt.Sprintf("291:%X", whole[:size])
		for _, text := range []string{line, strings.ToLower(line), spread(line), line + ";,", "here:" + line, "here : " + spread(strings.ToLower(line))} {
			image := wantBytes(t, "org 0x123\n"+text, want)
			for at, starts := range image.Starts {
				if starts != (at == 0x123) {
					t.Errorf("P4: %q: whether one begins at %d: %v", text, at, starts)
				}
			}
		}
	}
}

// spread puts blanks wherever one likes.
func spread(line string) string {
	name, rest, _ := strings.Cut(line, " ")
	for _, sign := range []string{"#", "/", "@", ",", "+"} {
		rest = strings.ReplaceAll(rest, sign, "  "+sign+" ")
	}
	return "   " + name + "   " + rest + "  "
}

func TestAssembleBlanks(t *testing.T) {
	wantBytes(t, "x:mov a,#5+2-$;c", "0:7407")
	wantBytes(t, " x : mov a , # 5 + 2 - $ ; c", "0:7407")
	wantBytes(t, "sjmp$\ndb$", "0:80FE02")
	wantBytes(t, "y  equ  3\ndb y", "0:03")
	wantBytes(t, "jmp @ a + dptr\nmovc a , @ a + pc\nmovx @ dptr , a\ninc @ r1\norl c , / 3", "0:7383F007A003")
	wantFaults(t, api.ErrSyntax, "nop\t", "\tnop", "mov\ta,5", "nop\r", "nop\x00", "nop\xA0", "n op", "mova,5", "mul a b", "inc @r 1", "inc r 1", "db 0 x1", "db 1 2", "y eq u 3", "yequ 3", "y equ3")
}

func TestAssembleCommentsHideAll(t *testing.T) {
	wantBytes(t, "nop;\t\r\x00\xFF : , 99999 a: ; mov\nnop ;;", "0:0000")
	wantBytes(t, ";nop\nx:;y:\ndb 1;,2", "0:01")
	wantFaults(t, api.ErrSyntax, "mov a;,5", "db ;1", "y equ ; 3")
}

func TestAssembleCapitals(t *testing.T) {
	wantBytes(t, "Loop: dJnZ r2,LOOP\nDw 0XfF , 0xFf\nabc Equ 1\nDB aBc", "0:DAFE00FF00FF01")
	// Letters of other alphabets whose capitals are among A to Z.
	wantFaults(t, api.ErrSyntax, "\u017Fjmp $", "\u212A: nop", "y equ \u212A", "\u0131nc a", "\u00E9: nop")
}

func TestAssembleLines(t *testing.T) {
	wantBytes(t, "nop\nnop", "0:0000")
	wantBytes(t, "nop\nnop\n", "0:0000")
	wantBytes(t, "\n\nnop\n\n", "0:00")
	wantFault(t, "nop\n\n;\nbad", api.ErrSyntax, 4)
	wantFault(t, "nop\n\n;\nbad\n", api.ErrSyntax, 4)
	wantFault(t, "bad\nbad", api.ErrSyntax, 1)
}

func TestAssembleLong(t *testing.T) {
	wantBytes(t, strings.Repeat(" ", 1997)+"nop", "0:00")
	wantFault(t, strings.Repeat(" ", 1998)+"nop", api.ErrLong, 0)
	wantFault(t, strings.Repeat("?", 2000), api.ErrSyntax, 1)
	wantFault(t, strings.Repeat("?", 2001), api.ErrLong, 0)
	wantFault(t, strings.Repeat("\n", 1999)+"x", api.ErrSyntax, 2000)
	wantFault(t, strings.Repeat("\n", 100000), api.ErrLong, 0)
}

func TestAssembleSyntax(t *testing.T) {
	wantFaults(t, api.ErrSyntax,
		"x", "x 3", "x nop", "x db 1", "x: y", ":", ": nop", "::", "x:: nop", "x: y: nop", "x: y: equ 3", "x: equ 3", "1: nop", "1x: nop", "$: nop", "x y:", "5", "$", "#5", ",", "@r0",
		"nop nop", "nop,", "nop 1", "nop ,1", "ret a", "ret: nop", "clr", "clr ,", "clr a,", "clr a,a", "mov", "mov a", "mov a,", "mov ,a", "mov a 5", "mov a,,5", "mov a,5,", "mov a,5,6", "mov a,5,6,7", "cjne a,#5", "cjne a,#5,$,1", "cjne a,#5 $", "cjne a #5,$",
		"mov a,a", "mov c,a", "mov a,c", "mov #1,a", "add #1,a", "add 5,a", "mov ab,5", "mul a", "div 5", "inc c", "inc #5", "inc @dptr", "inc @a+dptr", "dec dptr", "jmp 5", "jmp @a+pc", "jmp @dptr", "movc a,@dptr", "movc a,@a", "movx a,5", "movx 5,a", "push a", "push r0", "ljmp #5", "sjmp a", "xchd a,5", "mov @r0,@r1", "mov r0,r1", "mov dptr,5", "mov dptr,a", "orl c,/a", "orl /5,c", "mov c,/5", "xrl c,5", "setb a", "djnz a,$", "djnz @r0,$", "da 5",
		"inc @r2", "inc @r7", "inc @5", "inc @", "inc @x", "inc @a", "inc #", "mov a,#", "mov a,#a", "mov a,#r0", "mov a,#@r0", "mov a,##5", "anl c,/", "anl c,//5", "anl c,/#5", "mov a,@@r0", "jmp @a+", "jmp @a-dptr", "jmp @dptr+a", "jmp a+dptr", "jmp @a+dptr+1", "jmp @a+x", "mov a,pc", "mov a,r0+1", "mov a,1+r0", "mov c,c+1", "mov r0+1,a",
		"equ 3", "equ equ 3", "x equ", "x equ 1,2", "x equ 1 2", "x equ a", "x equ #1", "x equ equ", "x: x2 x3 equ 1", "x equ: 3",
		"org", "org 1,2", "org #1", "org a", "org,", "ds", "ds 1,2", "ds #1", "ds @r0", "db", "db 1,", "db ,1", "db 1,,2", "db #1", "db a", "db r0", "db mov", "db org", "db equ", "db pc", "db @r0", "db /1", "db: nop", "dw", "dw 1,", "dw dptr", "dw 1 2",
		"db 1+", "db +1", "db -1", "db 1++2", "db 1+-2", "db 1--2", "db 1*2", "db (1)", "db 1+(2)", "db 'a'", "db \"a\"", "db 1.5", "db x:", "db $$", "db $1", "db 1$", "db $x", "db !", "db 1=1", "db x[1]",
		"db 12a", "db 12_", "db 0x", "db 0xg", "db 0x1g", "db 0x1_", "db 00x1", "db 1x1", "db 0x 1", "db 0b1", "db 1h", "db 99999999999999999999z", "db 0x999999999999z")
}

func TestAssembleReservedNames(t *testing.T) {
	reserved := strings.Fields("org db dw ds equ a ab c dptr pc r0 r1 r2 r3 r4 r5 r6 r7")
	for code := range 256 {
		line, _ := burnish.Decode(string([]byte{byte(code), 0, 0}), 0)
		name, _, _ := strings.Cut(line, " ")
		if name != "" {
			reserved = append(reserved, name)
		}
	}
	for _, name := range reserved {
		wantFaults(t, api.ErrSyntax, name+":", name+" equ 3", "dw 1+"+name, "y equ "+name, "ljmp 0+"+name, strings.ToUpper(name)+":")
	}
}

func TestAssembleNames(t *testing.T) {
	for _, name := range strings.Fields("x _ __ _1 x1 b acc r r8 r9 r00 r10 rr0 r0_ rel page byte word addr dir bit nops no end data a_ ab_ aa cc pcs d dptr0 x0 o0x1 eightchr ________ a1234567 equ1 or") {
		wantBytes(t, "org 5\n"+name+": nop\ndb "+strings.ToUpper(name), "5:0005")
		wantBytes(t, strings.ToUpper(name)+" equ 7\nmov a,#"+name, "0:7407")
		wantFault(t, "db "+name, api.ErrName, 1)
	}
	for _, name := range []string{"ninechars", "_________", "a12345678", strings.Repeat("x", 1000)} {
		wantFaults(t, api.ErrName, name+":", name+": nop", name+" equ 3", "x equ "+name, "org "+name, "ds 1+"+name, "db "+name, "dw 1,2,3-"+name, "mov a,#"+name, "anl c,/"+name, "sjmp "+name, "mov 5,"+name)
		wantFaults(t, api.ErrSyntax, name, name+" 3", name+" nop", "@"+name, "inc @"+name)
	}
	// A name that is too long is seen in the first reading.
	wantFault(t, "db y\ndb 256\ndb ninechars", api.ErrName, 3)
}

func TestAssembleNumbers(t *testing.T) {
	for text, want := range map[string]string{
		"0": "0000", "00000": "0000", "00001": "0001", "9": "0009", "00256": "0100", "65535": "FFFF",
		"0x0": "0000", "0xf": "000F", "0X1a": "001A", "0xABC": "0ABC", "0xFfFf": "FFFF", "0x0001": "0001",
	} {
		wantBytes(t, "dw "+text, "0:"+want)
	}
	for _, text := range []string{"65536", "99999", "000000", "000001", "065535", "100000", "4294967296", "18446744073709551616", strings.Repeat("9", 900), strings.Repeat("0", 900),
		"0x10000", "0x00000", "0x00001", "0xFFFFF", "0xFFFFFFFFFFFFFFFFF", "0x" + strings.Repeat("0", 900)} {
		wantFaults(t, api.ErrRange, "dw "+text, "dw 1,"+text, "dw 0-"+text, "dw "+text+"-"+text, "mov a,#"+text, "mov a,#1-"+text, "anl c,/"+text, "sjmp "+text, "mov 5,"+text, "org "+text, "org 1+"+text+"-"+text, "ds "+text, "y equ "+text, "x: db "+text)
		// Such a number is seen in the first reading.
		wantFault(t, "db y\ndb 256\ndb "+text, api.ErrRange, 3)
	}
}

func TestAssembleExpressions(t *testing.T) {
	wantBytes(t, "db 10-3-2+1,1-2-3,0-0,5", "0:06FC0005")
	wantBytes(t, "x equ 7\ny equ x-10\ndb x+y-x,y,0-y,y-y", "0:FDFD0300")
	wantBytes(t, "org 9\ndb $,$+1,1-$+$\nmov a,#$-1\nx: cjne a,#$,$\ny equ $-x\ndb y", "9:090A01740BB40EFD03")
	wantBytes(t, "db z-y\ny equ 3\nz equ 5", "0:02")
}

// sum gives a sum of one term so many times, with a last one behind.
func sum(term string, count int, last string) string {
	return strings.Repeat(term, count)[1:] + last
}

func TestAssembleMillion(t *testing.T) {
	million := sum("+50000", 20, "")
	minusMillion := "0" + strings.Repeat("-50000", 20)
	wantBytes(t, "x equ "+million+"\ny equ 0-x\ny2 equ "+minusMillion+"\ndb x+y,y2-y,x-50000-50000-x+65535+34465", "0:000000")
	wantFaults(t, api.ErrRange, "x equ "+million+"+1", "x equ "+million+"+1-1", "x equ "+minusMillion+"-1", "x equ "+minusMillion+"-1+1",
		"org "+million+"+1-"+sum("-50000", 20, "-1"), "ds "+million+"+1-"+sum("-50000", 20, "-1"),
		"db "+million+"+1-1-"+sum("-50000", 20, ""), "dw "+minusMillion+"-1+1+"+million, "mov a,#"+million+"+1-1-"+sum("-50000", 20, ""), "sjmp "+minusMillion+"-1+1+"+million)
	wantBytes(t, "org "+million+"-"+sum("-50000", 20, "")+"\ndb "+million+"-"+sum("-50000", 20, "")+"\nmov a,#"+minusMillion+"+"+million, "0:007400")
	wantBytes(t, "ds "+million+"-"+sum("-50000", 20, "+3")+"\nnop", "3:00")
	// In an EQU it is wrong by itself, in an operand only when all names are known.
	wantFault(t, "db x\ny equ "+million+"+1", api.ErrRange, 2)
	wantFault(t, "db x\ndb "+million+"+1", api.ErrName, 1)
	wantFault(t, "x equ "+million+"\ndb x-x\ndb x+1-x", api.ErrRange, 3)
}

func TestAssembleOrg(t *testing.T) {
	wantBytes(t, "org 0\nnop\norg 1023\nnop\norg 2\nnop", "0:00 2:00 1023:00")
	wantBytes(t, "org 5\norg $+5\nl: org l+1\ndb $,l", "11:0B0A")
	wantFaults(t, api.ErrRange, "org 1024", "org 65535", "org 0-1", "org 5-6")
	wantFaults(t, api.ErrName, "org x", "org 1+x", "org x\nx equ 1", "org x-x\nx:")
}

func TestAssembleDS(t *testing.T) {
	wantBytes(t, "nop\nds 3\nnop\nds 0\nnop", "0:00 4:0000")
	wantBytes(t, "x: ds x+2\ny: ds $\nnop\ndb y", "4:0002")
	wantBytes(t, "ds 1023\nnop", "1023:00")
	wantBytes(t, "ds 1024\nds 0\nx:\ny equ x\norg 0\ndw y,$", "0:04000000")
	wantFaults(t, api.ErrRange, "ds 1025", "ds 65535", "ds 0-1")
	wantFault(t, "org 1000\nds 24\nds 1", api.ErrRange, 3)
	wantFault(t, "org 1000\nds 25", api.ErrRange, 2)
	wantFault(t, "ds 1024\nnop", api.ErrRange, 2)
	wantFault(t, "ds 1024\ndb 1", api.ErrRange, 2)
	wantFaults(t, api.ErrName, "ds x", "ds x\nx equ 1", "ds x-x\nx:")
}

func TestAssembleData(t *testing.T) {
	wantBytes(t, "db 0-128,0-1,0,255", "0:80FF00FF")
	wantBytes(t, "dw 0-32768,0-1,0,65535,0x1234", "0:8000FFFF0000FFFF1234")
	wantBytes(t, "nop\ndb $,$,x\ndw $,x\nx equ 0-2", "0:000101FE0004FFFE")
	wantFaults(t, api.ErrRange, "db 256", "db 0-129", "db 1,2,256", "dw 0-32769", "dw 65535+1", "dw 1,0-32769")
	wantFault(t, "db x\nx equ 256", api.ErrRange, 1)
	image := wantBytes(t, "db 1\nnop\ndw 2\nmov a,5\ndb 0", "0:01000002E50500")
	if want := []bool{false, true, false, false, true, false, false}; !slices.Equal(image.Starts[:7], want) {
		t.Errorf("P4: instructions begin at %v, want %v", image.Starts[:7], want)
	}
}

func TestAssembleEqu(t *testing.T) {
	wantBytes(t, "x equ 5\ny equ x+1\nl: z equ l+y+$\norg 4\nm: w equ m\ndb x,y,z,w", "4:05060604")
	wantBytes(t, "db x\nx equ 5", "0:05")
	wantFaults(t, api.ErrName, "x equ x", "x equ y", "x equ y\ny equ 1", "x equ y\ny:")
}

func TestAssembleOperandRanges(t *testing.T) {
	for _, c := range []struct {
		before, behind string
		lowest         int
		highest        int
	}{
		{"mov a,#", "", -128, 255}, {"mov r1,#", "", -128, 255}, {"mov 5,#", "", -128, 255}, {"cjne @r0,#", ",$", -128, 255}, {"mov dptr,#", "", -32768, 65535},
		{"mov ", ",a", 0, 255}, {"mov a,", "", 0, 255}, {"mov 5,", "", 0, 255}, {"mov ", ",5", 0, 255}, {"mov ", ",#5", 0, 255}, {"push ", "", 0, 255}, {"djnz ", ",$", 0, 255},
		{"setb ", "", 0, 255}, {"mov c,", "", 0, 255}, {"mov ", ",c", 0, 255}, {"jb ", ",$", 0, 255}, {"orl c,/", "", 0, 255}, {"anl c,/", "", 0, 255},
		{"ljmp ", "", 0, 65535}, {"lcall ", "", 0, 65535}, {"ajmp ", "", 0, 2047}, {"acall ", "", 0, 2047},
	} {
		for _, number := range []int{c.lowest, c.highest} {
			wantFault(t, fmt.Sprintf("%sx%s\nx equ 0+%d-%d", c.before, c.behind, max(number, 0), max(-number, 0)), api.OK, 0)
		}
		for _, number := range []int{c.lowest - 1, c.highest + 1} {
			wantFault(t, fmt.Sprintf("\n%sx%s\nx equ 0+%d-%d", c.before, c.behind, min(max(number, 0), 65535), max(-number, 0))+"+"+fmt.Sprint(max(number-65535, 0)), api.ErrRange, 2)
		}
	}
	wantBytes(t, "mov a,#0-128\nmov dptr,#0-32768\nmov dptr,#0-1\nlcall 0xFEDC", "0:748090800090FFFF12FEDC")
}

func TestAssembleRel(t *testing.T) {
	wantBytes(t, "org 500\nsjmp $+129\njb 1,$+130\ncjne a,#2,$-125\nsjmp $-126\ndjnz r3,$\njc $+2", "500:807F20017FB402808080DBFE4000")
	for _, line := range []string{"sjmp $+130", "sjmp $-127", "jb 1,$+131", "jb 1,$-126", "cjne r0,#1,$-126", "djnz 1,$+131", "djnz r1,$+130", "sjmp 65535", "sjmp 0", "jz 33000", "jnz 33269", "jnc 33270"} {
		wantFault(t, "org 500\n"+line, api.ErrRange, 2)
	}
	// Places wrap round, but none is below 0 or above 65535.
	wantBytes(t, "sjmp 65410\norg 10\nsjmp 65535\norg 125\nsjmp 65535", "0:8080 10:80F3 125:8080")
	wantFault(t, "sjmp 65409", api.ErrRange, 1)
	wantFault(t, "org 126\nsjmp 65535", api.ErrRange, 2)
	wantFaults(t, api.ErrRange, "sjmp 0-1", "sjmp $-60", "sjmp 65535+1", "sjmp 65535+$+3", "jb 1,0-1")
	wantBytes(t, "org 1022\nsjmp $+129", "1022:807F")
}

func TestAssemblePage(t *testing.T) {
	wantBytes(t, "org 100\najmp 0x7ff\nacall 5\najmp 0x1ff\nacall 0x600", "100:E1FF110521FFD100")
	wantBytes(t, "org 1022\nacall 0x312", "1022:7112")
	wantFaults(t, api.ErrRange, "ajmp 2048", "acall 65535", "ajmp 0-1", "ajmp 65535+1", "acall 0x8001")
}

func TestAssemblePlaces(t *testing.T) {
	wantBytes(t, "org 1021\nljmp 0\nx:\norg 0\ndw x", "0:0400 1021:020000")
	wantFault(t, "org 1022\nljmp 0", api.ErrRange, 2)
	wantFault(t, "org 1023\nsjmp $", api.ErrRange, 2)
	wantFault(t, "org 1023\nnop\nnop", api.ErrRange, 3)
	wantFault(t, "org 1023\ndw 0", api.ErrRange, 2)
	wantFault(t, "org 1020\ndb 1,2,3,4,5", api.ErrRange, 2)
	wantBytes(t, "org 1020\ndb 1,2,3,4", "1020:01020304")
}

func TestAssembleOverlap(t *testing.T) {
	for _, c := range []struct {
		place int
		line  string
		errno api.Errno
	}{
		{97, "ljmp 0", api.OK}, {98, "ljmp 0", api.ErrOverlap}, {100, "nop", api.ErrOverlap}, {102, "db 1", api.ErrOverlap}, {102, "sjmp $", api.ErrOverlap}, {103, "nop", api.OK},
		{99, "dw 1", api.ErrOverlap}, {90, "db 1,2,3,4,5,6,7,8,9,10", api.OK}, {90, "db 1,2,3,4,5,6,7,8,9,10,11", api.ErrOverlap}, {95, "db 1,2,3,4,5,6,7,8,9,10,11", api.ErrOverlap},
		{100, "ds 3", api.OK}, {100, "x:", api.OK}, {100, "x equ $", api.OK},
	} {
		line := 4
		if c.errno == api.OK {
			line = 0
		}
		for _, first := range []string{"ljmp 5", "db 1,2,3"} {
			source := fmt.Sprintf("org 100\n%s\norg %d\n%s", first, c.place, c.line)
			wantFault(t, source, c.errno, line)
		}
	}
	wantFault(t, "nop\norg 0\nnop", api.ErrOverlap, 3)
	wantBytes(t, "ds 5\norg 0\nnop", "0:00")
}

func TestAssembleTwice(t *testing.T) {
	wantFault(t, "x:\nx:", api.ErrTwice, 2)
	wantFault(t, "x:\nnop\nX: nop", api.ErrTwice, 3)
	wantFault(t, "x equ 1\nx equ 1", api.ErrTwice, 2)
	wantFault(t, "x equ 1\nx:", api.ErrTwice, 2)
	wantFault(t, "x:\ny: x equ 1", api.ErrTwice, 2)
	wantFaults(t, api.ErrTwice, "x: x equ 1", "x: X equ x", "eightchr: EIGHTCHR equ 1")
}

func names(count int) string {
	text := ""
	for i := range count {
		text += fmt.Sprintf("n%d equ %d\n", i, i)
	}
	return text
}

func TestAssembleLabels(t *testing.T) {
	wantBytes(t, names(40)+"db n39", "0:27")
	wantBytes(t, names(38)+"x: y equ 3\ndb y", "0:03")
	wantFault(t, names(41), api.ErrLabels, 41)
	wantFault(t, names(40)+"x:", api.ErrLabels, 41)
	wantFault(t, names(40)+"x: nop", api.ErrLabels, 41)
	wantFault(t, names(39)+"x: y equ 3", api.ErrLabels, 40)
	// Only what is given a meaning counts.
	wantFault(t, names(40)+"db x,y,z", api.ErrName, 41)
	wantFault(t, "db "+strings.Repeat("n1,", 41)+"n1\nn1:", api.OK, 0)
}

func TestAssembleFirstNamedErrorOfALine(t *testing.T) {
	full := names(40)
	for _, c := range []struct {
		source string
		errno  api.Errno
		line   int
	}{
		{"ninechars equ 99999 nop", api.ErrSyntax, 1},
		{"x:\nx: mov a,#ninechars,", api.ErrSyntax, 2},
		{full + "x: db 65536 65536", api.ErrSyntax, 41},
		{"org 1023\nnop\nsjmp ,", api.ErrSyntax, 3},
		{"nop\norg 0\nljmp", api.ErrSyntax, 3},
		{"x:\nx equ y", api.ErrName, 2},
		{"x:\nx: db ninechars", api.ErrName, 2},
		{full + "x equ y", api.ErrName, 41},
		{full + "ninechars:", api.ErrName, 41},
		{"org x+99999", api.ErrName, 1},
		{"ds 1025+x", api.ErrName, 1},
		{"x equ 99999-x", api.ErrName, 1},
		{"ds 1024\ndb ninechars", api.ErrName, 2},
		{"nop\norg 0\nljmp ninechars", api.ErrName, 3},
		{full + "n0:", api.ErrTwice, 41},
		{full + "x: x equ 1", api.ErrTwice, 41},
		{full + "x: n0 equ 1", api.ErrTwice, 41},
		{full + "n0: x equ 1", api.ErrTwice, 41},
		{"x:\nx: org 1024", api.ErrTwice, 2},
		{"x:\nx: db 65536", api.ErrTwice, 2},
		{"x:\nds 1024\nx: nop", api.ErrTwice, 3},
		{"x: nop\norg 0\nx: nop", api.ErrTwice, 3},
		{full + "x: org 1024", api.ErrLabels, 41},
		{full + "x equ 65536", api.ErrLabels, 41},
		{full + "x: ds 1025", api.ErrLabels, 41},
		{full + "nop\norg 0\nx: nop", api.ErrLabels, 43},
		{"nop\norg 0\ndb 65536", api.ErrRange, 3},
		{"org 1023\nnop\norg 1023\ndw 1", api.ErrRange, 4},
		{"org 1022\nnop\norg 1022\nljmp 0", api.ErrRange, 4},
		{"nop\norg 0\ndb 256", api.ErrOverlap, 3},
		{"nop\norg 0\ndb y", api.ErrOverlap, 3},
	} {
		wantFault(t, c.source, c.errno, c.line)
	}
}

func TestAssembleSecondReading(t *testing.T) {
	wantFault(t, "db y\nmov a", api.ErrSyntax, 2)
	wantFault(t, "db 256\norg y", api.ErrName, 2)
	wantFault(t, "db y\nx:\nx:", api.ErrTwice, 3)
	wantFault(t, "db 256\norg 1024", api.ErrRange, 2)
	wantFault(t, "db y\norg 0\nnop", api.ErrOverlap, 3)
	wantFault(t, "db y\ndb 256", api.ErrName, 1)
	wantFault(t, "db 256\ndb y", api.ErrRange, 1)
	wantFault(t, "db 256,y", api.ErrName, 1)
	wantFault(t, "dw 65535+1,y", api.ErrName, 1)
	wantFault(t, "cjne a,#256,y", api.ErrName, 1)
	wantFault(t, "nop\nmov 256,y\nsjmp 1000", api.ErrName, 2)
	wantFault(t, "nop\n\nsjmp 1000\nsjmp y", api.ErrRange, 3)
}

func TestAssembleListsAreNewMemory(t *testing.T) {
	const source = "x: nop\nsjmp x\norg 1023\nret"
	first := wantBytes(t, source, "0:0080FD 1023:22")
	bytes, laid, starts := first.Bytes[:cap(first.Bytes)], first.Laid[:cap(first.Laid)], first.Starts[:cap(first.Starts)]
	for i := range bytes {
		bytes[i] = 7
	}
	for i := range laid {
		laid[i] = true
	}
	for i := range starts {
		if i < len(first.Starts) && starts[i] != (i == 0 || i == 1 || i == 1023) {
			t.Fatalf("P2: what is laid is seen in what begins, at %d", i)
		}
		starts[i] = true
	}
	again := wantBytes(t, source, "0:0080FD 1023:22")
	if !again.Starts[0] || again.Starts[2] || again.Starts[5] {
		t.Errorf("P2: what was written into an image is seen in the next one")
	}
}
