package seals

import "strings"

const (
	maxWord   = 24
	maxDigits = 9
)

// token is a token of a line, or no token, which has a text that can stand nowhere. The end of a line has the empty text.
type token struct {
	text string
	at   int
}

// tokensOf returns the tokens of a line, and its end.
func tokensOf(line string) []token {
	line, _, _ = strings.Cut(line, "#")
	var tokens []token
	at := 0
	for at < len(line) {
		if line[at] == ' ' || line[at] == '\t' {
			at++
			continue
		}
		length := lengthOf(line[at:])
		tokens = append(tokens, token{line[at : at+length], at})
		at += length
	}
	return append(tokens, token{at: at})
}

// lengthOf returns the length of the token at the beginning of a text.
func lengthOf(text string) int {
	if strings.HasPrefix(text, ">=") {
		return len(">=")
	}
	n := 0
	for n < len(text) && inWords(text[n]) {
		n++
	}
	return max(n, 1)
}

// inWords reports whether a byte is one of those that belong together where they follow one another.
func inWords(c byte) bool { return isSmall(c) || isDigit(c) || c == '-' }

func isSmall(c byte) bool { return c >= 'a' && c <= 'z' }

func isDigit(c byte) bool { return c >= '0' && c <= '9' }

func isWord(s string) bool {
	return len(s) > 0 && len(s) <= maxWord && isSmall(s[0]) && all(s, inWords)
}

func isNumber(s string) bool {
	return s == "0" || len(s) > 0 && len(s) <= maxDigits && s[0] != '0' && all(s, isDigit)
}

// all reports whether all bytes of a string are of a kind.
func all(s string, is func(c byte) bool) bool {
	for i := range len(s) {
		if !is(s[i]) {
			return false
		}
	}
	return true
}
