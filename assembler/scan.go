package assembler

import (
	"strconv"
	"strings"
)

type tokenKind int

const (
	tokenEnd tokenKind = iota
	tokenWord
	tokenNumber
	tokenSign
)

// token is a word, a number or a sign, in capitals.
type token struct {
	kind   tokenKind
	text   string
	number int
}

const (
	greatest = 65535
	// tooGreat stands for every number that is; which one it is does not
	// matter, for it is refused anyway.
	tooGreat = greatest + 1
)

// scan splits a line; an end stands behind its last token. False, if it has a
// number that is none.
func scan(line string) ([]token, bool) {
	var tokens []token
	for rest := capitals(line); rest != ""; {
		size := max(runLength(rest), 1)
		first, text := rest[0], rest[:size]
		rest = rest[size:]
		switch {
		case first == ' ':
		case isDigit(first):
			value, right := readNumber(text)
			if !right {
				return nil, false
			}
			tokens = append(tokens, token{tokenNumber, text, value})
		case isOfWord(first):
			tokens = append(tokens, token{kind: tokenWord, text: text})
		default:
			tokens = append(tokens, token{kind: tokenSign, text: text})
		}
	}
	return append(tokens, token{kind: tokenEnd}), true
}

// capitals leaves all but the letters A to Z as it is; the library's way would
// make letters of other alphabets into them.
func capitals(text string) string {
	changed := []byte(text)
	for i, c := range changed {
		if c >= 'a' && c <= 'z' {
			changed[i] = c - 'a' + 'A'
		}
	}
	return string(changed)
}

// runLength counts the letters, digits and _ with which a text begins.
func runLength(text string) int {
	for i := range len(text) {
		if !isOfWord(text[i]) {
			return i
		}
	}
	return len(text)
}

func isDigit(c byte) bool { return c >= '0' && c <= '9' }

func isOfWord(c byte) bool { return isDigit(c) || c >= 'A' && c <= 'Z' || c == '_' }

func readNumber(text string) (int, bool) {
	digits, base, most := text, 10, 5
	if strings.HasPrefix(text, "0X") {
		digits, base, most = text[2:], 16, 4
	}
	others := strings.Trim(digits, "0123456789ABCDEF"[:base])
	if digits == "" || others != "" {
		return 0, false
	}
	if len(digits) > most {
		return tooGreat, true
	}
	value, err := strconv.ParseInt(digits, base, 32)
	return min(int(value), tooGreat), err == nil
}
