package burnish_test

import (
	"fmt"
	"math"
	"strings"
	"testing"

	"burnish/burnish"
)

type decoded struct {
	line string
	size int
}

func decode(code string, at int) decoded {
	line, size := burnish.Decode(code, at)
	return decoded{line, size}
}

func wantDecoded(t *testing.T, code string, at int, want decoded) {
	t.Helper()
	if got := decode(code, at); got != want {
		t.Errorf("P3: Decode(% X, %d) = %q, %d, want %q, %d", code, at, got.line, got.size, want.line, want.size)
	}
}

// allLines gives what linesAt1234 says, by code.
func allLines(t *testing.T) map[byte]decoded {
	t.Helper()
	lines := map[byte]decoded{}
	for _, text := range strings.Split(strings.TrimSpace(linesAt1234), "\n") {
		var code byte
		var size int
		if _, err := fmt.Sscanf(text, "%02X %d", &code, &size); err != nil {
			t.Fatalf("%q: %v", text, err)
		}
		lines[code] = decoded{strings.SplitN(text, " ", 3)[2], size}
	}
	if len(lines) != 255 {
		t.Fatalf("%d lines, want one for each code but A5", len(lines))
	}
	return lines
}

func TestDecodeExamples(t *testing.T) {
	wantDecoded(t, "\x02\x12\x34", 0, decoded{"LJMP 0x1234", 3})
	wantDecoded(t, "\x80\xFE", 256, decoded{"SJMP 0x0100", 2})
	wantDecoded(t, "\x85\x10\x20", 0, decoded{"MOV 0x20,0x10", 3})
	wantDecoded(t, "\xB9\x05\xFD", 0, decoded{"CJNE R1,#0x05,0x0000", 3})
	wantDecoded(t, "\x41\x07", 65533, decoded{"AJMP 0xFA07", 2})
}

func TestDecodeEveryCode(t *testing.T) {
	lines := allLines(t)
	for code := range 256 {
		wantDecoded(t, string([]byte{byte(code), 0x9A, 0xBC}), 0x1234, lines[byte(code)])
	}
}

func TestDecodeNoBytes(t *testing.T) {
	for _, at := range []int{0, 1, -1, 65535, math.MinInt, math.MaxInt} {
		wantDecoded(t, "", at, decoded{})
	}
}

func TestDecodeA5(t *testing.T) {
	for _, rest := range []string{"", "\x00", "\x00\x00", "\xA5\xA5\xA5", "\x02\x12\x34"} {
		wantDecoded(t, "\xA5"+rest, 0, decoded{})
	}
}

func TestDecodeNotWhole(t *testing.T) {
	for code, line := range allLines(t) {
		whole := string([]byte{code, 0x9A, 0xBC})
		for size := range line.size {
			wantDecoded(t, whole[:size], 0x1234, decoded{})
		}
	}
}

func TestDecodeMoreBytes(t *testing.T) {
	for code, line := range allLines(t) {
		whole := string([]byte{code, 0x9A, 0xBC})[:line.size]
		for _, more := range []string{"", "\x00", "\xA5", "\xFF\xFF\xFF", strings.Repeat("\x02", 3000)} {
			wantDecoded(t, whole+more, 0x1234, line)
		}
	}
}

func TestDecodeTakesTheLowest16BitsOfThePlace(t *testing.T) {
	for code, line := range allLines(t) {
		whole := string([]byte{code, 0x9A, 0xBC})
		for _, turns := range []int{-1 << 40, -3, -1, 1, 3, 1 << 40} {
			wantDecoded(t, whole, 0x1234+turns*65536, line)
		}
		if decode(whole, math.MaxInt) != decode(whole, 65535) {
			t.Errorf("P3: Decode(% X) at the greatest number is not as at 65535", whole)
		}
		if decode(whole, math.MinInt) != decode(whole, 0) {
			t.Errorf("P3: Decode(% X) at the least number is not as at 0", whole)
		}
	}
}

func TestDecodePlacesWrapRound(t *testing.T) {
	wantDecoded(t, "\x80\x7F", 65535, decoded{"SJMP 0x0080", 2})
	wantDecoded(t, "\x80\x00", 65534, decoded{"SJMP 0x0000", 2})
	wantDecoded(t, "\x80\xFF", 65534, decoded{"SJMP 0xFFFF", 2})
	wantDecoded(t, "\x80\x80", 0, decoded{"SJMP 0xFF82", 2})
	wantDecoded(t, "\x80\x80", -2, decoded{"SJMP 0xFF80", 2})
	wantDecoded(t, "\x80\x7F", -1, decoded{"SJMP 0x0080", 2})
	wantDecoded(t, "\x10\x22\x80", 0, decoded{"JBC 0x22,0xFF83", 3})
	wantDecoded(t, "\x10\x22\x00", 65533, decoded{"JBC 0x22,0x0000", 3})
	wantDecoded(t, "\x41\x07", 65534, decoded{"AJMP 0x0207", 2})
	wantDecoded(t, "\x41\x07", -2, decoded{"AJMP 0x0207", 2})
	wantDecoded(t, "\x41\x07", -3, decoded{"AJMP 0xFA07", 2})
}

func TestDecodeRel(t *testing.T) {
	for distance := -128; distance <= 127; distance++ {
		for _, at := range []int{0, 0x00FE, 0x1234, 0x7FFF, 0x8000, 0xFFFD, 0xFFFF} {
			last := string([]byte{byte(distance)})
			two := fmt.Sprintf("0x%04X", (at+2+distance)&0xFFFF)
			three := fmt.Sprintf("0x%04X", (at+3+distance)&0xFFFF)
			wantDecoded(t, "\x80"+last, at, decoded{"SJMP " + two, 2})
			wantDecoded(t, "\xDF"+last, at, decoded{"DJNZ R7," + two, 2})
			wantDecoded(t, "\x30\x80"+last, at, decoded{"JNB 0x80," + three, 3})
			wantDecoded(t, "\xB4\xFF"+last, at, decoded{"CJNE A,#0xFF," + three, 3})
		}
	}
}

// The highest five bits are those of the place behind the instruction, so
// they change where the instruction ends on the last place of a page.
func TestDecodePage(t *testing.T) {
	for _, c := range []struct{ at, page int }{
		{0, 0}, {0x07FD, 0}, {0x07FE, 0x0800}, {0x07FF, 0x0800}, {0x0800, 0x0800},
		{0x1234, 0x1000}, {0x7FFD, 0x7800}, {0x7FFE, 0x8000}, {0xFFFD, 0xF800}, {0xFFFE, 0}, {0xFFFF, 0},
	} {
		for low := range 0x800 {
			place := fmt.Sprintf("0x%04X", c.page+low)
			high := low >> 8 << 5
			wantDecoded(t, string([]byte{byte(0x01 + high), byte(low)}), c.at, decoded{"AJMP " + place, 2})
			wantDecoded(t, string([]byte{byte(0x11 + high), byte(low)}), c.at, decoded{"ACALL " + place, 2})
		}
	}
}

func TestDecodeEveryByteOfOperands(t *testing.T) {
	for number := range 256 {
		other := 255 - number
		behind := string([]byte{byte(number), byte(other)})
		one, two := fmt.Sprintf("0x%02X", number), fmt.Sprintf("0x%02X", other)
		both := fmt.Sprintf("0x%02X%02X", number, other)
		wantDecoded(t, "\xC0"+behind, 0, decoded{"PUSH " + one, 2})
		wantDecoded(t, "\xB2"+behind, 0, decoded{"CPL " + one, 2})
		wantDecoded(t, "\xB0"+behind, 0, decoded{"ANL C,/" + one, 2})
		wantDecoded(t, "\x94"+behind, 0, decoded{"SUBB A,#" + one, 2})
		wantDecoded(t, "\x75"+behind, 0, decoded{"MOV " + one + ",#" + two, 3})
		wantDecoded(t, "\x85"+behind, 0, decoded{"MOV " + two + "," + one, 3})
		wantDecoded(t, "\x90"+behind, 0, decoded{"MOV DPTR,#" + both, 3})
		wantDecoded(t, "\x12"+behind, 0, decoded{"LCALL " + both, 3})
	}
}
