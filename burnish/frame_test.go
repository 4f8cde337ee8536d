package burnish_test

import (
	"math/rand"
	"strings"
	"testing"

	"burnish/api"
	"burnish/burnish"
)

// checkOf is the document's rule with numbers that do not wrap round, so that
// the lowest 16 bits are taken on purpose.
func checkOf(text string) string {
	check := 65535
	for i := range len(text) {
		check ^= int(text[i]) * 256
		for range 8 {
			if check >= 32768 {
				check = check*2%65536 ^ 4129
			} else {
				check *= 2
			}
		}
	}
	return string([]byte{byte(check / 256), byte(check % 256)})
}

var escapes = strings.NewReplacer("\x7E", "\x7D\x5E", "\x7D", "\x7D\x5D")

func frameOf(message string) string { return "~" + escapes.Replace(message+checkOf(message)) + "~" }

func wantFrame(t *testing.T, message, want string) {
	t.Helper()
	if frame, errno := burnish.Frame(message); frame != want || errno != api.OK {
		t.Errorf("P6: Frame(% X) = % X, %d, want % X", message, frame, errno, want)
	}
}

func TestFrameHasTheMessageAndItsCheck(t *testing.T) {
	wantFrame(t, "123456789", "\x7E123456789\x29\xB1\x7E")
	wantFrame(t, "A", "\x7EA\xB9\x15\x7E")
	wantFrame(t, "\x7E\x01", "\x7E\x7D\x5E\x01"+checkOf("\x7E\x01")+"\x7E")
	wantFrame(t, "\x7D", "\x7E\x7D\x5D"+checkOf("\x7D")+"\x7E")
}

func TestFrameOfEachByteAndPair(t *testing.T) {
	for first := range 256 {
		wantFrame(t, string([]byte{byte(first)}), frameOf(string([]byte{byte(first)})))
		for second := range 256 {
			message := string([]byte{byte(first), byte(second)})
			wantFrame(t, message, frameOf(message))
		}
	}
}

// The check's own bytes are escaped as the message's are: each of them is 125
// and 126 in some message of two bytes.
func TestFrameEscapesTheCheck(t *testing.T) {
	seen := map[string]bool{}
	for number := range 65536 {
		message := string([]byte{byte(number >> 8), byte(number)})
		check := checkOf(message)
		for place := range 2 {
			if kind := check[place : place+1]; kind == "\x7D" || kind == "\x7E" {
				seen[kind+string(rune('0'+place))] = true
				frame, _ := burnish.Frame(message)
				if inner := frame[1 : len(frame)-1]; strings.Contains(inner, "~") || !strings.HasSuffix(inner, escapes.Replace(check)) {
					t.Fatalf("P6: Frame(% X) = % X, its check is % X", message, frame, check)
				}
			}
		}
	}
	if len(seen) != 4 {
		t.Errorf("P6: only %d of 4 kinds of checks were tried", len(seen))
	}
}

func TestFrameOfEachLength(t *testing.T) {
	random := rand.New(rand.NewSource(6))
	for length := 1; length <= api.MaxFrame; length++ {
		wantFrame(t, strings.Repeat("\x7E", length), frameOf(strings.Repeat("\x7E", length)))
		wantFrame(t, strings.Repeat("\x00", length), frameOf(strings.Repeat("\x00", length)))
		message := make([]byte, length)
		for range 20 {
			random.Read(message)
			wantFrame(t, string(message), frameOf(string(message)))
		}
	}
}

func TestFrameOfTooFewOrTooManyBytes(t *testing.T) {
	for _, length := range []int{0, 81, 82, 83, 160, 5000} {
		if frame, errno := burnish.Frame(strings.Repeat("x", length)); frame != "" || errno != api.ErrBytes {
			t.Errorf("P6: Frame of %d bytes: % X, %d, want ErrBytes alone", length, frame, errno)
		}
	}
}
