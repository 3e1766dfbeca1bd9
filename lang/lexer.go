package lang

import (
	"strings"
)

// Kinds of tokens. A bad token begins with a byte that begins none.
const (
	tokenWord = iota
	tokenNumeral
	tokenDecimal
	tokenSymbol
	tokenEnd
	tokenBad
)

type token struct {
	kind int
	text string
	pos  int
}

// skipSpace returns the offset of the next byte that is neither white space nor in a comment.
func skipSpace(src string, at int) int {
	for at < len(src) {
		switch c := src[at]; {
		case c == ' ' || c == '\t' || c == '\r' || c == '\n':
			at++
		case strings.HasPrefix(src[at:], "//"):
			for at < len(src) && src[at] != '\n' {
				at++
			}
		default:
			return at
		}
	}
	return at
}

// digits returns the offset after the digits at an offset.
func digits(src string, at int) int {
	for at < len(src) && isDigit(src[at]) {
		at++
	}
	return at
}

// next returns the token that begins at an offset or after the white space there.
func next(src string, at int) token {
	at = skipSpace(src, at)
	if at == len(src) {
		return token{kind: tokenEnd, pos: at}
	}
	switch c := src[at]; {
	case isLetter(c):
		end := at
		for end < len(src) && (isLetter(src[end]) || isDigit(src[end])) {
			end++
		}
		return token{tokenWord, src[at:end], at}
	case isDigit(c):
		return numberToken(src, at)
	}
	for _, s := range [...]string{"==>", ":=", "==", "!=", "<=", ">=", "&&", "||"} {
		if strings.HasPrefix(src[at:], s) {
			return token{tokenSymbol, s, at}
		}
	}
	if strings.IndexByte("<>=+-*/%!(){}[],;:", src[at]) >= 0 {
		return token{tokenSymbol, src[at : at+1], at}
	}
	return token{kind: tokenBad, pos: at}
}

func numberToken(src string, at int) token {
	kind, end := tokenNumeral, at+1
	if src[at] != '0' {
		end = digits(src, at)
	}
	if end+1 < len(src) && src[end] == '.' && isDigit(src[end+1]) {
		kind, end = tokenDecimal, digits(src, end+1)
	}
	if end < len(src) && (isLetter(src[end]) || isDigit(src[end])) {
		return token{kind: tokenBad, pos: at}
	}
	return token{kind, src[at:end], at}
}
