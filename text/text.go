// Package text is layer 1: see shared/doc/01-text.md.
package text

import "strconv"

const (
	caseGap    = 'a' - 'A'
	mostNumber = 1 << 40
	noDigit    = 16 // as great as the greatest base, so that no base has it
)

// Lower is a text with small letters.
func Lower(s string) string {
	b := []byte(s)
	for i, c := range b {
		b[i] = small(c)
	}
	return string(b)
}

// Like tells whether two texts are alike.
func Like(a, b string) bool {
	if len(a) != len(b) {
		return false
	}
	for i := range len(a) {
		if small(a[i]) != small(b[i]) {
			return false
		}
	}
	return true
}

// Trim is a text without blanks at its ends.
func Trim(s string) string {
	from, to := 0, len(s)
	for from < to && blank(s[from]) {
		from++
	}
	for from < to && blank(s[to-1]) {
		to--
	}
	return s[from:to]
}

// Split is the pieces of a text.
func Split(s string, sep byte) []string {
	var pieces []string
	from := 0
	for i := range len(s) {
		if s[i] == sep {
			pieces = append(pieces, s[from:i])
			from = i + 1
		}
	}
	return append(pieces, s[from:])
}

// Number is the number of digits. A base other than 8, 10 and 16 has no numbers.
func Number(s string, base int) (int, bool) {
	if s == "" || base != 8 && base != 10 && base != 16 {
		return 0, false
	}
	n := 0
	for i := range len(s) {
		d := digit(s[i])
		if d >= base {
			return 0, false
		}
		// Held against the bound at each digit, n never grows beyond an int.
		n = n*base + d
		if n > mostNumber {
			return 0, false
		}
	}
	return n, true
}

// Decimal is a number's digits.
func Decimal(n int) string { return strconv.Itoa(n) }

// Token tells whether a text is a token.
func Token(s string) bool {
	// Runes do for bytes here: each byte from 128 on is told as, or within, a rune from 128 on, and none of those may be.
	for _, r := range s {
		if !tokenSign(r) {
			return false
		}
	}
	return s != ""
}

// Plain tells whether all bytes are plain.
func Plain(s string) bool {
	// Runes do for bytes here, as they do in Token.
	for _, r := range s {
		if r < 33 || r > 126 {
			return false
		}
	}
	return true
}

// Signs is how many signs a text has.
func Signs(s string) int {
	n := 0
	for range s {
		n++
	}
	return n
}

func small(c byte) byte {
	if 'A' <= c && c <= 'Z' {
		return c + caseGap
	}
	return c
}

func blank(c byte) bool { return c == ' ' || c == '\t' }

func digit(c byte) int {
	switch {
	case '0' <= c && c <= '9':
		return int(c - '0')
	case 'a' <= c && c <= 'f':
		return int(c-'a') + 10
	case 'A' <= c && c <= 'F':
		return int(c-'A') + 10
	}
	return noDigit
}

func tokenSign(r rune) bool {
	switch {
	case 'a' <= r && r <= 'z', 'A' <= r && r <= 'Z', '0' <= r && r <= '9':
		return true
	}
	switch r {
	case '!', '#', '$', '%', '&', '\'', '*', '+', '-', '.', '^', '_', '`', '|', '~':
		return true
	}
	return false
}
