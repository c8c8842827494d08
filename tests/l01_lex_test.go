package tests

import (
	"reflect"
	"strings"
	"testing"

	"loop.example/g00317/impl"
)

var allWords = []string{
	"break", "catch", "continue", "delete", "else", "false", "finally", "for", "function",
	"if", "in", "new", "null", "return", "this", "throw", "true", "try", "typeof",
	"undefined", "var", "while", "with",
}

var allMarks = []string{
	"===", "!==", "==", "!=", "<=", ">=", "&&", "||", "(", ")", "{", "}", "[", "]", ";", ",",
	".", "=", "<", ">", "+", "-", "*", "/", "%", "!", "?", ":",
}

const nameBytes = "abcdefghijklmnopqrstuvwxyzABCDEFGHIJKLMNOPQRSTUVWXYZ0123456789_$"

func wantTokens(t *testing.T, text string, want ...impl.Token) {
	t.Helper()
	got := impl.Tokens(text)
	if !reflect.DeepEqual(got, impl.TokensOut{Tokens: want}) {
		t.Errorf("Tokens(%.200q):\n got %+v\nwant %+v", text, got, want)
	}
}

func wantFault(t *testing.T, text string, at int) {
	t.Helper()
	want := impl.TokensOut{At: int64(at), Code: impl.ErrSyntax}
	got := impl.Tokens(text)
	if len(got.Tokens) != 0 || got.At != want.At || got.Code != want.Code {
		t.Errorf("Tokens(%.200q): got %+v, want %+v", text, got, want)
	}
}

func name(at int64, text string) impl.Token {
	return impl.Token{Kind: impl.TName, Text: text, At: at}
}

func word(at int64, text string) impl.Token {
	return impl.Token{Kind: impl.TWord, Text: text, At: at}
}

func number(at int64, num int64) impl.Token {
	return impl.Token{Kind: impl.TNumber, Num: num, At: at}
}

func quoted(at int64, text string) impl.Token {
	return impl.Token{Kind: impl.TText, Text: text, At: at}
}

func mark(at int64, text string) impl.Token {
	return impl.Token{Kind: impl.TMark, Text: text, At: at}
}

func end(at int64) impl.Token {
	return impl.Token{Kind: impl.TEnd, At: at}
}

func lined(token impl.Token) impl.Token {
	token.Line = true
	return token
}

func TestConstants(t *testing.T) {
	got := []int{
		impl.OK, impl.ErrForm, impl.ErrSize, impl.ErrSyntax, impl.ErrEarly, impl.ErrNone, impl.ErrSteps,
		impl.ErrFull, impl.MaxBytes, impl.MaxList, impl.MaxDeep,
		impl.TName, impl.TWord, impl.TNumber, impl.TText, impl.TMark, impl.TEnd,
	}
	want := []int{0, 1, 2, 3, 4, 5, 6, 7, 4000, 400, 40, 1, 2, 3, 4, 5, 6}
	if !reflect.DeepEqual(got, want) {
		t.Errorf("got %v, want %v", got, want)
	}
}

func TestNameRight(t *testing.T) {
	right := []string{
		"a", "z", "A", "Z", "_", "$", "a0", "a9", "_1", "$1", "camelCase", "eval", "arguments",
		"use", "let", "Break", "breaks", "brea", "undefine", "i", "inn", "WITH",
		strings.Repeat("a", 20), strings.Repeat("$", 20), "a" + strings.Repeat("9", 19),
	}
	for _, text := range right {
		if !impl.NameRight(text) {
			t.Errorf("%q is a name", text)
		}
	}
	wrong := []string{
		"", "0", "9", "0a", "1a", "9_", " ", "a b", " a", "a ", "a\n", "a-b", "a.b", "\"a\"", "a\x00", "\xc3\xa9",
		"a\xff", "a@", "a[", "a`", "a{", "a/", "a:", strings.Repeat("a", 21), strings.Repeat("a", 4000),
		strings.Repeat("a", 4001),
	}
	for _, text := range append(wrong, allWords...) {
		if impl.NameRight(text) {
			t.Errorf("%q is no name", text)
		}
	}
}

func TestNameRightOfEachByte(t *testing.T) {
	for b := 0; b < 256; b++ {
		one := string([]byte{byte(b)})
		inName := strings.Contains(nameBytes, one)
		digit := b >= '0' && b <= '9'
		if impl.NameRight(one) != (inName && !digit) {
			t.Errorf("a name of the byte %d alone: %v", b, impl.NameRight(one))
		}
		if impl.NameRight("a"+one) != inName || impl.NameRight("a"+one+"b") != inName {
			t.Errorf("a name with the byte %d in it: %v", b, impl.NameRight("a"+one))
		}
	}
}

func TestTokensOfNothing(t *testing.T) {
	wantTokens(t, "", end(0))
	wantTokens(t, " \t ", end(3))
	wantTokens(t, "\n", lined(end(1)))
	wantTokens(t, " \n ", lined(end(3)))
	wantTokens(t, "//", end(2))
	wantTokens(t, "// a", end(4))
	wantTokens(t, "// a\n", lined(end(5)))
	wantTokens(t, "//\n//", lined(end(5)))
}

func TestTokensOfAScript(t *testing.T) {
	wantTokens(t, "var a1 = \"t\\n\" // c\n=== 12",
		word(0, "var"), name(4, "a1"), mark(7, "="), quoted(9, "t\n"), lined(mark(20, "===")), number(24, 12), end(26))
	wantTokens(t, "function f(x){return x+1}",
		word(0, "function"), name(9, "f"), mark(10, "("), name(11, "x"), mark(12, ")"), mark(13, "{"),
		word(14, "return"), name(21, "x"), mark(22, "+"), number(23, 1), mark(24, "}"), end(25))
	wantTokens(t, "a\n\n\tb // x\n\n// y\nc d\n",
		name(0, "a"), lined(name(4, "b")), lined(name(17, "c")), name(19, "d"), lined(end(21)))
	wantTokens(t, "\na", lined(name(1, "a")), end(2))
	wantTokens(t, "//x\na", lined(name(4, "a")), end(5))
	wantTokens(t, "a \"b\"c 1.2 0.5 -7\"\"",
		name(0, "a"), quoted(2, "b"), name(5, "c"), number(7, 1), mark(8, "."), number(9, 2), number(11, 0),
		mark(12, "."), number(13, 5), mark(15, "-"), number(16, 7), quoted(17, ""), end(19))
}

func TestTokensOfNames(t *testing.T) {
	for _, text := range []string{"$", "_", "a", "Z", "eval", "arguments", "Var", "vars", "va", "inx", "undefined1"} {
		wantTokens(t, text, name(0, text), end(int64(len(text))))
	}
	twenty := "a" + strings.Repeat("Z9$_", 4) + "abc"
	wantTokens(t, " "+twenty+" b", name(1, twenty), name(22, "b"), end(23))
	wantTokens(t, twenty+"+"+twenty, name(0, twenty), mark(20, "+"), name(21, twenty), end(41))
	wantFault(t, twenty+"x", 0)
	wantFault(t, "b "+twenty+"0", 2)
	wantFault(t, "b "+twenty+"$+", 2)
	wantFault(t, "b\n\n"+strings.Repeat("x", 3000), 3)
}

func TestTokensOfEachWord(t *testing.T) {
	for _, text := range allWords {
		n := int64(len(text))
		wantTokens(t, text, word(0, text), end(n))
		wantTokens(t, text+" "+text+"1", word(0, text), name(n+1, text+"1"), end(2*n+2))
		wantTokens(t, "_"+text+";"+text, name(0, "_"+text), mark(n+1, ";"), word(n+2, text), end(2*n+2))
	}
}

func TestTokensOfEachMark(t *testing.T) {
	for _, text := range allMarks {
		n := int64(len(text))
		wantTokens(t, text, mark(0, text), end(n))
		wantTokens(t, "a"+text+"b", name(0, "a"), mark(1, text), name(n+1, "b"), end(n+2))
		wantTokens(t, "1"+text+"\"b\"", number(0, 1), mark(1, text), quoted(n+1, "b"), end(n+4))
		wantTokens(t, text+"\n"+text, mark(0, text), lined(mark(n+1, text)), end(2*n+1))
	}
	wantTokens(t, "====", mark(0, "==="), mark(3, "="), end(4))
	wantTokens(t, "=====", mark(0, "==="), mark(3, "=="), end(5))
	wantTokens(t, "!===", mark(0, "!=="), mark(3, "="), end(4))
	wantTokens(t, "!!=", mark(0, "!"), mark(1, "!="), end(3))
	wantTokens(t, "=!=", mark(0, "="), mark(1, "!="), end(3))
	wantTokens(t, "<==", mark(0, "<="), mark(2, "="), end(3))
	wantTokens(t, ">==", mark(0, ">="), mark(2, "="), end(3))
	wantTokens(t, "<>=", mark(0, "<"), mark(1, ">="), end(3))
	wantTokens(t, "= =", mark(0, "="), mark(2, "="), end(3))
	wantTokens(t, "&&&&||||", mark(0, "&&"), mark(2, "&&"), mark(4, "||"), mark(6, "||"), end(8))
	wantTokens(t, "+++=", mark(0, "+"), mark(1, "+"), mark(2, "+"), mark(3, "="), end(4))
	wantTokens(t, "...", mark(0, "."), mark(1, "."), mark(2, "."), end(3))
	wantTokens(t, "/ /", mark(0, "/"), mark(2, "/"), end(3))
	wantTokens(t, "/*/", mark(0, "/"), mark(1, "*"), mark(2, "/"), end(3))
	wantFault(t, "&", 0)
	wantFault(t, "|", 0)
	wantFault(t, "a&&&", 3)
	wantFault(t, "a|||b", 3)
	wantFault(t, "& &", 0)
}

func TestTokensOfNumbers(t *testing.T) {
	wantTokens(t, "0", number(0, 0), end(1))
	wantTokens(t, "9", number(0, 9), end(1))
	wantTokens(t, "10203", number(0, 10203), end(5))
	wantTokens(t, "999999999999999", number(0, 999999999999999), end(15))
	wantTokens(t, " 100000000000000;", number(1, 100000000000000), mark(16, ";"), end(17))
	wantTokens(t, "123456789012345", number(0, 123456789012345), end(15))
	wantTokens(t, "0 0\n1", number(0, 0), number(2, 0), lined(number(4, 1)), end(5))
	wantTokens(t, "0/0//0", number(0, 0), mark(1, "/"), number(2, 0), end(6))
	for _, text := range []string{
		"1000000000000000", "9999999999999999", "00", "01", "09", "0_", "0x1", "0a", "1a", "1A", "1z", "1Z", "1_",
		"1$", "12e3", "999999999999999a", "1234567890123456", strings.Repeat("7", 3000), "0000000000000000",
	} {
		wantFault(t, text, 0)
		wantFault(t, "a "+text, 2)
		wantFault(t, "1\n-"+text+" @", 3)
	}
}

func TestTokensOfTexts(t *testing.T) {
	wantTokens(t, `""`, quoted(0, ""), end(2))
	wantTokens(t, `"a"`, quoted(0, "a"), end(3))
	wantTokens(t, `"\\"`, quoted(0, `\`), end(4))
	wantTokens(t, `"\""`, quoted(0, `"`), end(4))
	wantTokens(t, `"\n"`, quoted(0, "\n"), end(4))
	wantTokens(t, `"\\n"`, quoted(0, `\n`), end(5))
	wantTokens(t, `"\\\n\"n"`, quoted(0, "\\\n\"n"), end(9))
	wantTokens(t, `"a" "b""c"`, quoted(0, "a"), quoted(4, "b"), quoted(7, "c"), end(10))
	wantTokens(t, `"// no" "use strict"`, quoted(0, "// no"), quoted(8, "use strict"), end(20))
	wantTokens(t, `"if"`, quoted(0, "if"), end(4))
	wantTokens(t, `" '~"`, quoted(0, " '~"), end(5))
	long := strings.Repeat("x", 3998)
	wantTokens(t, `"`+long+`"`, quoted(0, long), end(4000))
}

func TestTokensOfTextsThatAreWrong(t *testing.T) {
	for _, text := range []string{
		`"`, `"a`, `"\"`, `"\`, `"\a"`, `"\t"`, `"\N"`, `"\ "`, `"\'"`, `"\0"`, `"a\` + "\n" + `"`, "\"\n\"", "\"a\nb\"",
		`"a\x"`, `"\\\"`, "\"\\\x00\"", "\"\\\xff\"", "\"\\",
	} {
		wantFault(t, text, 0)
		wantFault(t, " "+text, 1)
		wantFault(t, "a = \"\"\n+"+text+" ", 8)
	}
}

func TestTokensOfEachByte(t *testing.T) {
	for b := 0; b < 256; b++ {
		one := string([]byte{byte(b)})
		switch {
		case b == '"':
			wantFault(t, "\"a"+one+"b\"", 4)
		case b == '\\':
			wantFault(t, "\"a"+one+"b\"", 0)
		case b >= 32 && b <= 126:
			wantTokens(t, "\"a"+one+"b\"", quoted(0, "a"+one+"b"), end(5))
		default:
			wantFault(t, "\"a"+one+"b\"", 0)
			wantFault(t, "c \"a"+one+"b\"", 2)
		}
		begins := strings.Contains(nameBytes+" \t\n(){}[];,.=<>+-*/%!?:", one)
		if !begins && b != '"' {
			wantFault(t, one, 0)
			wantFault(t, "a "+one, 2)
			wantFault(t, "a\n12 "+one+"b", 5)
			wantFault(t, "a"+one, 1)
		}
		if b != '\n' {
			wantTokens(t, "a//"+one, name(0, "a"), end(4))
			wantTokens(t, "//b"+one+"b\na", lined(name(6, "a")), end(7))
		}
	}
}

func TestTokensOfComments(t *testing.T) {
	wantTokens(t, "a// the end", name(0, "a"), end(11))
	wantTokens(t, "a//", name(0, "a"), end(3))
	wantTokens(t, "a //\" @ \\ // b\nb", name(0, "a"), lined(name(15, "b")), end(16))
	wantTokens(t, "a // \xff\xc3\xa9\xe2\x82\nb", name(0, "a"), lined(name(11, "b")), end(12))
	wantTokens(t, "a ///", name(0, "a"), end(5))
	wantTokens(t, "a //x\n/b", name(0, "a"), lined(mark(6, "/")), name(7, "b"), end(8))
	wantTokens(t, "1 // x\n// y\n", number(0, 1), lined(end(12)))
	wantTokens(t, "12//3", number(0, 12), end(5))
	wantFault(t, "// @\n@", 5)
	wantFault(t, "//\xc3\n\xc3", 4)
}

func TestTokensOfTheGreatestText(t *testing.T) {
	wantTokens(t, strings.Repeat(" ", 4000), end(4000))
	wantTokens(t, "a"+strings.Repeat(" ", 3998)+"b", name(0, "a"), name(3999, "b"), end(4000))
	wantTokens(t, "//"+strings.Repeat("x", 3998), end(4000))
	for _, text := range []string{
		strings.Repeat(" ", 4001), "//" + strings.Repeat("x", 3999), strings.Repeat("@", 4001),
		"\"" + strings.Repeat("x", 3999) + "\"", strings.Repeat("a ", 2001), strings.Repeat("a", 100000),
	} {
		got := impl.Tokens(text)
		if len(got.Tokens) != 0 || got.At != 0 || got.Code != impl.ErrSize {
			t.Errorf("Tokens of %d bytes: %+v", len(text), got)
		}
	}
	wantFault(t, strings.Repeat("\n", 3999)+"@", 3999)
}

func TestTokensThatAreTooMany(t *testing.T) {
	var want []impl.Token
	for i := range 600 {
		want = append(want, name(int64(2*i), "a"))
	}
	most := strings.Repeat("a ", 600)
	wantTokens(t, most, append(want[:600:600], end(1200))...)
	wantTokens(t, most+"\n // x", append(want[:600:600], lined(end(1206)))...)
	wantTokens(t, most[:1199], append(want[:600:600], end(1199))...)
	wantTokens(t, most[:1198], append(want[:599:599], end(1198))...)
	wantFault(t, most+"a", 1200)
	wantFault(t, most+"\n//\n  if (", 1206)
	wantFault(t, most+"1 @", 1200)
	wantFault(t, most+"\"\"", 1200)
	wantFault(t, most+" @", 1201)
	wantFault(t, most+" \"a", 1201)
	wantFault(t, most[:1198]+"@ a", 1198)
	wantFault(t, strings.Repeat(";", 601), 600)
	wantFault(t, strings.Repeat(";", 4000), 600)
}

func TestTokensAreNewMemory(t *testing.T) {
	text := "a \"b\""
	first := impl.Tokens(text)
	first.Tokens[0].Text = "spoilt"
	wantTokens(t, text, name(0, "a"), quoted(2, "b"), end(5))
}

func TestTokensNameTheFirstFault(t *testing.T) {
	wantFault(t, "a # \"b", 2)
	wantFault(t, "a \"b # 01", 2)
	wantFault(t, "01 @", 0)
	wantFault(t, "abcdefghijklmnopqrstu 01", 0)
	wantFault(t, "\"a\" \"b\"\"", 7)
}

func TestQuote(t *testing.T) {
	for _, c := range [][2]string{
		{"", `""`},
		{"a", `"a"`},
		{"a\"b\n", `"a\"b\n"`},
		{`\`, `"\\"`},
		{`\n`, `"\\n"`},
		{"\n\n", `"\n\n"`},
		{`"`, `"\""`},
		{" ~ '/", `" ~ '/"`},
		{"use strict", `"use strict"`},
		{"a\x00", ""}, {"\t", ""}, {"\r", ""}, {"a\x1fb", ""}, {"\x7f", ""}, {"\x80", ""}, {"\xc3\xa9", ""}, {"a\xff", ""},
	} {
		if got := impl.Quote(c[0]); got != c[1] {
			t.Errorf("Quote(%q): got %q, want %q", c[0], got, c[1])
		}
	}
}

func TestQuoteOfLongTexts(t *testing.T) {
	for _, unit := range []string{"x", "\n", "\"", "\\", " "} {
		shown := unit
		switch unit {
		case "\n":
			shown = `\n`
		case "\"", "\\":
			shown = `\` + unit
		}
		for _, n := range []int{1, 2, 999, 1000} {
			want := `"` + strings.Repeat(shown, n) + `"`
			if got := impl.Quote(strings.Repeat(unit, n)); got != want {
				t.Errorf("Quote of %d times %q: got %.50q..", n, unit, got)
			}
		}
		for _, n := range []int{1001, 2000, 4000, 4001, 100000} {
			if got := impl.Quote(strings.Repeat(unit, n)); got != "" {
				t.Errorf("Quote of %d times %q: got %.50q..", n, unit, got)
			}
		}
	}
}

func TestQuoteOfEachByte(t *testing.T) {
	for b := 0; b < 256; b++ {
		one := string([]byte{byte(b)})
		want := `"a` + one + `"`
		switch {
		case b == '\n':
			want = `"a\n"`
		case b == '"' || b == '\\':
			want = `"a\` + one + `"`
		case b < 32 || b > 126:
			want = ""
		}
		if got := impl.Quote("a" + one); got != want {
			t.Errorf("Quote with the byte %d: got %q, want %q", b, got, want)
		}
	}
}
