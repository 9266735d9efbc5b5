package forms

import (
	"strings"

	"optima/api"
)

// What a token is.
const (
	anEnd    = iota // behind the last one
	aName           // of a row or a column
	aNumber         // perhaps none of chapter 2
	aMark           // a word of the format, or a sign
	aLongRun        // too long for a name, so it can stand nowhere
)

// token is what stands together in a line.
type token struct {
	kind int
	text string
	line int
}

func (t token) is(mark string) bool { return t.kind == aMark && t.text == mark }

// tokensOf are a text's tokens, and one more for its end. They are all parted ahead of being read, since a byte that can be of none is told ahead of all else.
func tokensOf(text string) []token {
	var list []token
	lines := strings.Split(text, "\n")
	for i, line := range lines {
		said, _, _ := strings.Cut(line, `\`)
		for said = skip(said); said != ""; said = skip(said) {
			length := tokenLength(said)
			needAt(i+1, length > 0, api.ErrText)
			list = append(list, token{kindOf(said[:length]), said[:length], i + 1})
			said = said[length:]
		}
	}
	return append(list, token{anEnd, "", len(lines)})
}

func skip(said string) string { return strings.TrimLeft(said, " \t\r") }

// tokenLength is how long the token is that a line begins with; 0, if it is none.
func tokenLength(said string) int {
	switch first := said[0]; {
	case startsNumber(first):
		return run(said, func(b byte) bool { return startsNumber(b) || b == '/' })
	case isNameByte(first):
		return run(said, isNameByte)
	case strings.HasPrefix(said, "<=") || strings.HasPrefix(said, ">="):
		return 2
	case strings.IndexByte("+-=:", first) >= 0:
		return 1
	}
	return 0
}

func kindOf(text string) int {
	switch first := text[0]; {
	case startsNumber(first):
		return aNumber
	case isLineName(text):
		return aName
	case isNameByte(first) && len(text) > api.MaxWord:
		return aLongRun
	}
	return aMark
}

// isLineName is whether a text is a name of the line format.
func isLineName(text string) bool {
	return text != "" && len(text) <= api.MaxWord && !startsNumber(text[0]) && allBytes(text, isNameByte) && !isWord(text)
}

func isWord(text string) bool {
	switch text {
	case "maximize", "minimize", "subject", "to", "bounds", "generals", "end", "free", "nought":
		return true
	}
	return false
}

func isDigit(b byte) bool { return b >= '0' && b <= '9' }

func startsNumber(b byte) bool { return isDigit(b) || b == '.' }

func isNameByte(b byte) bool {
	return b >= 'a' && b <= 'z' || b >= 'A' && b <= 'Z' || isDigit(b) || strings.IndexByte("_.[],'!", b) >= 0
}
