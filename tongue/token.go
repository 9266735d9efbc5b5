package tongue

import (
	"strings"

	"optima/api"
)

// What a token is.
const (
	theEnd = iota // the text has no more
	aMark         // a sign or a keyword: its text says which
	aName         // a word that is no keyword
	aNumber
	aSymbol // its text is what stands between the strokes
)

// token is a piece of a text, from the byte at up to the byte end.
type token struct {
	kind    int
	text    string
	at, end int
}

// tokenFrom is the first token from a place of the text on.
func tokenFrom(text string, at int) token {
	at = gapEnd(text, at)
	if at == len(text) {
		return token{kind: theEnd, at: at, end: at}
	}
	switch first := text[at]; {
	case isLetter(first):
		return wordToken(text, at)
	case isDigit(first):
		return numberToken(text, at)
	case first == '\'':
		return symbolToken(text, at)
	}
	return signToken(text, at)
}

// gapEnd is where blanks and comments end that begin at a place.
func gapEnd(text string, at int) int {
	comment := false
	for ; at < len(text); at++ {
		switch text[at] {
		case '\n':
			comment = false
		case '#':
			comment = true
		case ' ', '\t', '\r':
		default:
			if !comment {
				return at
			}
		}
	}
	return at
}

func wordToken(text string, at int) token {
	word := wordFrom(text, at)
	kind := aName
	if isKeyword(word) {
		kind = aMark
	}
	return token{kind: kind, text: word, at: at, end: at + len(word)}
}

func numberToken(text string, at int) token {
	ahead := run(text, at, isDigit)
	end := at + len(ahead)
	if end < len(text) && text[end] == '.' {
		behind := run(text, end+1, isDigit)
		if len(behind) > api.MaxPlaces {
			panic(&api.Fault{At: at, Err: api.ErrBound})
		}
		if behind != "" { // else the point is none of the number's
			end += 1 + len(behind)
		}
	}
	if len(ahead) > api.MaxDigits {
		panic(&api.Fault{At: at, Err: api.ErrBound})
	}
	return token{kind: aNumber, text: text[at:end], at: at, end: end}
}

func symbolToken(text string, at int) token {
	word := wordFrom(text, at+1)
	stroke := at + 1 + len(word)
	if word == "" || stroke == len(text) || text[stroke] != '\'' {
		panic(&api.Fault{At: at, Err: api.ErrText})
	}
	return token{kind: aSymbol, text: word, at: at, end: stroke + 1}
}

func signToken(text string, at int) token {
	for end := min(at+2, len(text)); end > at; end-- {
		if isSign(text[at:end]) {
			return token{kind: aMark, text: text[at:end], at: at, end: end}
		}
	}
	panic(&api.Fault{At: at, Err: api.ErrText})
}

// wordFrom is the word that begins at a place, or nothing.
func wordFrom(text string, at int) string {
	if at == len(text) || !isLetter(text[at]) {
		return ""
	}
	word := run(text, at, func(b byte) bool { return isLetter(b) || isDigit(b) })
	if len(word) > api.MaxWord {
		panic(&api.Fault{At: at, Err: api.ErrBound})
	}
	return word
}

// run is all that belongs together from a place on.
func run(text string, at int, belongs func(byte) bool) string {
	end := at
	for end < len(text) && belongs(text[end]) {
		end++
	}
	return text[at:end]
}

func isLetter(b byte) bool {
	return b >= 'a' && b <= 'z' || b >= 'A' && b <= 'Z' || b == '_'
}

func isDigit(b byte) bool { return b >= '0' && b <= '9' }

func isSign(s string) bool {
	switch s {
	case "..", "<=", ">=", "<>":
		return true
	}
	return len(s) == 1 && strings.Contains("{}[]();:,+-*/=<>", s)
}

func isKeyword(word string) bool {
	switch word {
	case "set", "param", "var", "integer", "binary", "minimize", "maximize", "subject", "in", "sum",
		"if", "then", "else", "and", "or", "not", "default", "union", "inter", "minus":
		return true
	}
	return false
}
