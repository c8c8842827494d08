package impl

import "strings"

// Constants, see chapter 1.
const (
	OK        = 0
	ErrForm   = 1
	ErrSize   = 2
	ErrSyntax = 3
	ErrEarly  = 4
	ErrNone   = 5
	ErrSteps  = 6
	ErrFull   = 7
	MaxBytes  = 4000
	MaxList   = 400
	MaxDeep   = 40
)

// Constants, see chapter 2.
const (
	TName   = 1
	TWord   = 2
	TNumber = 3
	TText   = 4
	TMark   = 5
	TEnd    = 6
)

// Token is a thing of chapter 2.
type Token struct {
	Kind int64
	Text string
	Num  int64
	Line bool
	At   int64
}

// TokensOut is a thing of chapter 2.
type TokensOut struct {
	Tokens []Token
	At     int64
	Code   int64
}

// The limits of chapters 1 and 2.
const (
	maxName   = 20
	maxDigits = 15
	maxTokens = 600
	maxQuoted = 1000
)

// A mark stands ahead of each one that it begins with, so that the longest is met first.
var marks = [...]string{
	"===", "!==", "==", "!=", "<=", ">=", "&&", "||",
	"(", ")", "{", "}", "[", "]", ";", ",", ".", "=", "<", ">",
	"+", "-", "*", "/", "%", "!", "?", ":",
}

// NameRight: see chapter 2.
func NameRight(t string) bool {
	if len(t) == 0 || len(t) > maxName || isDigit(t[0]) {
		return false
	}
	for i := range len(t) {
		if !isNameByte(t[i]) {
			return false
		}
	}
	return !isWord(t)
}

// Tokens: see chapter 2.
func Tokens(text string) TokensOut {
	if len(text) > MaxBytes {
		return TokensOut{Code: ErrSize}
	}
	var list []Token
	end := 0
	for {
		at, line := nextPlace(text, end)
		kind, behind := tokenEnd(text, at)
		tooMany := len(list) == maxTokens && kind != TEnd
		if kind == 0 || tooMany {
			return TokensOut{At: int64(at), Code: ErrSyntax}
		}
		token := tokenOf(kind, text[at:behind])
		token.Line, token.At = line, int64(at)
		list = append(list, token)
		if kind == TEnd {
			return TokensOut{Tokens: list}
		}
		end = behind
	}
}

// Quote: see chapter 2.
func Quote(t string) string {
	if len(t) > maxQuoted {
		return ""
	}
	quoted := []byte{'"'}
	for i := range len(t) {
		switch b := t[i]; {
		case b == '\n':
			quoted = append(quoted, '\\', 'n')
		case !isTextByte(b):
			return ""
		case b == '"' || b == '\\':
			quoted = append(quoted, '\\', b)
		default:
			quoted = append(quoted, b)
		}
	}
	return string(append(quoted, '"'))
}

// nextPlace tells where the first token from the place from on begins, and
// whether a line feed is ahead of it.
func nextPlace(text string, from int) (at int, line bool) {
	comment := false
	for i, r := range text[from:] {
		switch {
		case r == '\n':
			line, comment = true, false
		case comment || r == ' ' || r == '\t':
		case strings.HasPrefix(text[from+i:], "//"):
			comment = true
		default:
			return from + i, line
		}
	}
	return len(text), line
}

// tokenEnd tells the kind of the token that begins at the place at, and the
// place behind it; the kind 0, if none begins there or it can't be ended. Of a
// word the kind is TName.
func tokenEnd(text string, at int) (kind int64, end int) {
	end = at
	switch b := byteAt(text, at); {
	case at == len(text):
		kind = TEnd
		goto done
	case isDigit(b):
		goto number
	case isNameByte(b):
		goto name
	case b == '"':
		end++
		goto quoted
	}
	goto mark

name:
	end++
	if isNameByte(byteAt(text, end)) {
		goto name
	}
	if end-at <= maxName {
		kind = TName
	}
	goto done

number:
	end++
	if isDigit(byteAt(text, end)) {
		goto number
	}
	if numberRight(text[at:end]) && !isNameByte(byteAt(text, end)) {
		kind = TNumber
	}
	goto done

quoted:
	if n := textStep(text, end); n > 0 {
		end += n
		goto quoted
	}
	if byteAt(text, end) == '"' {
		kind = TText
		end++
	}
	goto done

mark:
	if n := markLength(text[at:]); n > 0 {
		kind = TMark
		end += n
	}

done:
	return kind, end
}

// tokenOf makes a token of its kind, as tokenEnd tells it, and its bytes.
func tokenOf(kind int64, raw string) Token {
	switch kind {
	case TName:
		if isWord(raw) {
			kind = TWord
		}
		return Token{Kind: kind, Text: strings.Clone(raw)}
	case TNumber:
		return Token{Kind: kind, Num: digitsNumber(raw)}
	case TText:
		return Token{Kind: kind, Text: unquote(raw)}
	case TMark:
		return Token{Kind: kind, Text: strings.Clone(raw)}
	}
	return Token{Kind: kind}
}

// unquote is what a text token stands for, of its bytes with the two bytes 34.
func unquote(raw string) string {
	var plain []byte
	for i := 1; i < len(raw)-1; i++ {
		b := raw[i]
		if b == '\\' {
			i++
			b = hiddenByte(raw[i])
		}
		plain = append(plain, b)
	}
	return string(plain)
}

// textStep tells how many bytes at the place at stand for one byte of a text, 0
// if none there do.
func textStep(text string, at int) int {
	b := byteAt(text, at)
	switch {
	case b == '\\' && hiddenByte(byteAt(text, at+1)) != 0:
		return 2
	case b == '\\' || b == '"' || !isTextByte(b):
		return 0
	}
	return 1
}

// hiddenByte is what a byte behind a backslash stands for, 0 if it may not
// stand there.
func hiddenByte(b byte) byte {
	switch b {
	case '\\', '"':
		return b
	case 'n':
		return '\n'
	}
	return 0
}

func markLength(rest string) int {
	for _, m := range marks {
		if strings.HasPrefix(rest, m) {
			return len(m)
		}
	}
	return 0
}

func numberRight(digits string) bool {
	return len(digits) <= maxDigits && (digits[0] != '0' || len(digits) == 1)
}

func digitsNumber(digits string) int64 {
	var n int64
	for i := range len(digits) {
		n = n*10 + int64(digits[i]-'0')
	}
	return n
}

// byteAt is 0 behind the end: a byte that no token has, so nothing goes on there.
func byteAt(text string, at int) byte {
	if at < len(text) {
		return text[at]
	}
	return 0
}

func isDigit(b byte) bool {
	return b >= '0' && b <= '9'
}

func isNameByte(b byte) bool {
	return isDigit(b) || b >= 'a' && b <= 'z' || b >= 'A' && b <= 'Z' || b == '_' || b == '$'
}

func isTextByte(b byte) bool {
	return b >= 32 && b <= 126
}

func isWord(t string) bool {
	switch t {
	case "break", "catch", "continue", "delete", "else", "false", "finally", "for",
		"function", "if", "in", "new", "null", "return", "this", "throw", "true",
		"try", "typeof", "undefined", "var", "while", "with":
		return true
	}
	return false
}
