package tests

import (
	"strings"
	"testing"

	"loop.example/g00317/impl"
)

func TestLinesOfTheLogAreTold(t *testing.T) {
	for _, c := range [][2]string{
		{"print()", "> undefined"}, {"print(\"\")", "> "}, {"print(\" a \")", ">  a "}, {"print(-5)", "> -5"}, {"print(null)", "> null"}, {"print(1 < 2)", "> true"}, {"print(-\"x\")", "> NaN"}, {"print({})", "> [object]"}, {"print(print)", "> [object]"},
		// Of a text it is told, not what quotes it; a line feed alone is hidden.
		{"print(\"a\")", "> a"}, {"print(" + quote("\"a\"") + ")", "> \"a\""}, {"print(" + quote("\\") + ")", "> \\"}, {"print(" + quote("\\n") + ")", "> \\n"}, {"print(\"\\n\")", "> \\n"}, {"print(" + quote("a\nb\n\nc\n") + ")", "> a\\nb\\n\\nc\\n"}, {"print(" + quote("\\\n") + ")", "> \\\\n"},
		{"print(\"> a\")", "> > a"}, {"print(\"value 1\")", "> value 1"}, {"print(\"---\")", "> ---"},
	} {
		wantTold(t, c[0], c[1]+"|value undefined")
		wantTold(t, c[0]+"; throw 1", c[1]+"|threw 1")
		wantTold(t, c[0]+"; while (true) {}", c[1]+"|error 6")
		wantTold(t, c[0]+"; while (true) ({})", c[1]+"|error 7")
		wantTold(t, c[0]+"\n"+c[0]+"\n---\n"+c[0], c[1]+"|"+c[1]+"|value undefined|"+c[1]+"|value undefined")
	}
	wantTold(t, "var i = 0; while (i < 70) { i = i + 1; print(7) }", strings.Repeat("> 7|", 60)+"value undefined|i=70")
	wantTold(t, session("var i = 0; while (i < 59) { i = i + 1; print(7) }", "print(1); print(2)"), strings.Repeat("> 7|", 59)+"value undefined|> 1|> 2|value undefined|i=59")
	long := strings.Repeat("a", 1000)
	wantTold(t, "print(\""+long+"\")", "> "+long+"|value undefined")
	wantTold(t, "print(\""+long+"a\")", "> NaN|value undefined")
	wantTold(t, "print("+quote(strings.Repeat("\n", 1000))+")", "> "+strings.Repeat("\\n", 1000)+"|value undefined")
}

// toldValues are expressions, and how their values are told.
func toldValues() [][2]string {
	list := [][2]string{
		{"undefined", "undefined"}, {"null", "null"}, {"true", "true"}, {"!1", "false"}, {"0", "0"}, {"-5", "-5"}, {"999999999999999", "999999999999999"}, {"-\"x\"", "NaN"}, {"1 / 0", "NaN"}, {"{}", "[object]"}, {"this", "[object]"}, {"print", "[object]"}, {"function () {}", "[object]"},
		{"\"\"", "\"\""}, {"\"a\"", "\"a\""}, {"\"[object]\"", "\"[object]\""}, {"\"12\"", "\"12\""}, {"\"undefined\"", "\"undefined\""}, {"\"---\"", "\"---\""}, {"\"a\" + 1 + null", "\"a1null\""}, {"\"a\" + {}", "\"a[object]\""}, {"typeof 1", "\"number\""}, {"\"x\" - 1", "NaN"},
	}
	for _, text := range []string{"\n", "a\nb\n", "\\", "\"", "\\n", "\\\n\"", " ~ ", "'", strings.Repeat("a", 1000), strings.Repeat("\n", 999), strings.Repeat("\\", 900) + "\"\n"} {
		list = append(list, [2]string{quote(text), quote(text)})
	}
	// A text that would be too long is no text, so none that can't be quoted comes to be told.
	long := strings.Repeat("a", 1000)
	return append(list, [2]string{"\"" + long + "b\"", "NaN"}, [2]string{"\"" + long + "\" + 1", "NaN"}, [2]string{"1 + \"" + long + "\"", "NaN"}, [2]string{"\"" + long[1:] + "\" + 1", "\"" + long[1:] + "1\""})
}

func TestValuesAreTold(t *testing.T) {
	for _, c := range toldValues() {
		wantTold(t, "("+c[0]+")", "value "+c[1])
		wantTold(t, "throw "+c[0], "threw "+c[1])
		wantTold(t, "try { throw "+c[0]+" } catch (e) { e }", "value "+c[1])
		wantTold(t, "try { throw "+c[0]+" } finally { 1 }", "threw "+c[1])
		wantTold(t, session("function f() { return "+c[0]+" } f()", "f = 1; throw 2"), "value "+c[1]+"|threw 2|f=1")
	}
	wantDesk(t, "\"|\" + 1", impl.DeskOut{Text: "value \"|1\"\n"})
	wantTold(t, "9007199254740992", "error 3")
	wantTold(t, "900719925474099 * 10 + 2", "value 9007199254740992")
	wantTold(t, "0 - 900719925474099 * 10 - 2", "value -9007199254740992")
	wantTold(t, "900719925474099 * 10 + 3", "value NaN")
}

// The value is that of the last expression that ran in the program, in no function.
func TestWhichValueIsTold(t *testing.T) {
	for _, c := range [][2]string{
		{";", "value undefined"}, {"1; 2; 3", "value 3"}, {"1; ;", "value 1"}, {"if (0) 1", "value undefined"}, {"4; if (0) 1", "value 4"}, {"{ 1; { 2 } }", "value 2"}, {"1; try { 2; throw 3 } catch (e) { }", "value 2"}, {"1; try { 2 } finally { 3 }", "value 3"}, {"function f() { 5 } 1; f()", "value undefined|f=[object]"}, {"print(1)", "> 1|value undefined"},
		{"1; throw 2", "threw 2"}, {"throw undefined", "threw undefined"}, {"throw {}", "threw [object]"}, {"1; while (true) 2", "error 6"}, {"eval(\"6; 7\")", "value 7"}, {"var a = 1", "value undefined|a=1"},
	} {
		wantTold(t, c[0], c[1])
	}
}

func TestCodesAreTold(t *testing.T) {
	deep := strings.Repeat("!", 40) + "1"
	for _, c := range [][2]string{
		{"(", "error 3"}, {"\"", "error 3"}, {"a b", "error 3"}, {"01", "error 3"}, {strings.Repeat(";", 601), "error 3"}, {"\x80", "error 3"}, {"return", "error 4"}, {"break", "error 4"}, {"{ function f() {} }", "error 4"}, {"\"use strict\"; eval = 1", "error 4"},
		{"while (1) ;", "error 6"}, {deep, "error 7"}, {"while (1) ({})", "error 7"}, {"while (1) (function () {})", "error 7"},
	} {
		wantTold(t, c[0], c[1])
		wantTold(t, session("1", c[0]), "value 1|"+c[1])
	}
}

func TestGlobalsAreTold(t *testing.T) {
	for _, c := range [][2]string{
		{"var a = 1, b, c = \"t\"", "value undefined|a=1|b=undefined|c=t"}, {"var a = \"\"", "value undefined|a="}, {"this.a = null", "value null|a=null"}, {"var o = {a: 1}, t = this", "value undefined|o=[object]|t=[object]"}, {"function f() {} function g() {}", "value undefined|f=[object]|g=[object]"}, {"var a = -\"x\", b = !a, c = -1", "value undefined|a=NaN|b=true|c=-1"},
		// Neither key nor value is quoted, and of both a line feed alone is hidden.
		{"var a = " + quote("x\ny\n") + "; 1", "value 1|a=x\\ny\\n"}, {"this[" + quote("k\nl") + "] = " + quote("\n") + "; 1", "value 1|k\\nl=\\n"}, {"this[\"\\n\"] = 1", "value 1|\\n=1"}, {"var a = " + quote("\"\\") + "; 1", "value 1|a=\"\\"}, {"this[\"\"] = 2", "value 2|=2"}, {"this[\"a b\"] = 2; this[\"=\"] = 3", "value 3|a b=2|==3"}, {"this[\"> \"] = 4", "value 4|> =4"},
		// Hidden ones are not told, unless they were made anew.
		{"1", "value 1"}, {"eval = 1; print = 2", "value 2"}, {"var eval, print", "value undefined"}, {"delete print; print = 5; print", "value 5|print=5"}, {"delete eval; delete print", "value true"}, {"a = 1; delete a", "value true"}, {"a = 1; b = 2; delete a; a = 3", "value 3|b=2|a=3"},
		// They are told in their order, behind all the programs, as they are in the end.
		{session("var b = 1", "var a = 2; b = 3", "c = b"), "value undefined|value 3|value 3|b=3|a=2|c=3"}, {session("var a = 1", "throw a = 2"), "value undefined|threw 2|a=2"}, {session("var a = 1", "var b = 1; ("), "value undefined|error 3|a=1"}, {session("var a = 1; while (true) {} var b", "a = 2"), "error 6|a=1|b=undefined"},
		{"function f(x) { y = x; var z = 1 } f(3)", "value undefined|f=[object]|y=3"}, {"eval(\"var a = 1\"); 2", "value 2|a=1"}, {"for (k in {a: 1, b: 2}) ;", "value undefined|k=b"}, {"print(\"a\"); var a = \"b\"", "> a|value undefined|a=b"},
	} {
		wantTold(t, c[0], c[1])
	}
	key, text := strings.Repeat("k", 1000), strings.Repeat("\n", 999)
	wantTold(t, "this[\""+key+"\"] = "+quote(text)+"; 1", "value 1|"+key+"="+strings.Repeat("\\n", 999))
	wantTold(t, "this[\""+key+"\" + \"k\"] = 1", "value 1|NaN=1")
}

// toldOf is a session of which that many bytes are told, from 59218 to 60300.
func toldOf(bytes int) (text string, told string) {
	long := strings.Repeat("x", 1000)
	first := "var i = 0, s = \"" + long[500:] + "\"; s = s + s; while (i < 58) { i = i + 1; print(s) }"
	told = strings.Repeat("> "+long+"\n", 58) + "value undefined\n> "
	globals := "i=58\ns=" + long + "\n"
	last := strings.Repeat("y", bytes-len(told)-len("\nvalue undefined\n")-len(globals))
	return session(first, "print(\""+last+"\")"), told + last + "\nvalue undefined\n" + globals
}

func TestHowMuchIsTold(t *testing.T) {
	for _, bytes := range []int{59218, 59999, 60000} {
		text, told := toldOf(bytes)
		if len(told) != bytes {
			t.Fatalf("%d bytes, not %d", len(told), bytes)
		}
		wantDesk(t, text, impl.DeskOut{Text: told})
	}
	tooMuch := impl.DeskOut{Code: impl.ErrSize}
	for _, bytes := range []int{60001, 60002, 60210} {
		text, _ := toldOf(bytes)
		wantDesk(t, text, tooMuch)
	}
	// A line feed counts as the two bytes it is told by, in the Log and in Globals.
	feeds := "var i = 0, s = " + quote(strings.Repeat("\n", 500)) + "; s = s + s; "
	wantDesk(t, feeds+"while (i < 28) { i = i + 1; print(s) }", impl.DeskOut{Text: strings.Repeat("> "+strings.Repeat("\\n", 1000)+"\n", 28) + "value undefined\ni=28\ns=" + strings.Repeat("\\n", 1000) + "\n"})
	wantDesk(t, feeds+"while (i < 29) { i = i + 1; print(s) }", tooMuch)
	// Globals alone may be too much, and so may the Logs of several programs.
	keys := "var i = 0, s = \"" + strings.Repeat("x", 990) + "\"; while (i < @) { i = i + 1; this[i] = s }"
	for rounds := 55; rounds < 65; rounds++ {
		text := strings.Replace(keys, "@", decimal(rounds), 1)
		want := sessionOf([]string{text})
		if (want.Code == impl.OK) != (rounds <= 58) {
			t.Errorf("%d rounds tell %d bytes, with %d", rounds, len(want.Text), want.Code)
		}
		wantDesk(t, text, want)
	}
	lines := "var i = 0, s = \"" + strings.Repeat("x", 300) + "\"; s = s + s; while (i < 60) { i = i + 1; print(s) }"
	wantDesk(t, session(lines, "print(s)", "#"), sessionOf([]string{lines, "print(s)", "#"}))
	wantDesk(t, session(lines, lines), tooMuch)
	wantDesk(t, session(lines, lines, "while (true) {}", "1"), tooMuch)
}

func TestEachLineHasALineFeed(t *testing.T) {
	for _, text := range []string{"", "1", "print(1)", "throw 1", "(", "while (true) {}", "var a = \"\\n\"", session("print(\"\\n\"); a = 1", "#", "throw \"\\n\"", "\"\\n\"")} {
		out := impl.SessionRun(text)
		lines := strings.Split(out.Text, "\n")
		if out.Code != impl.OK || len(lines) < 2 || lines[len(lines)-1] != "" {
			t.Fatalf("%q: got %q, %d", text, out.Text, out.Code)
		}
		for _, line := range lines[:len(lines)-1] {
			if line == "" {
				t.Errorf("%q: an empty line in %q", text, out.Text)
			}
		}
	}
}
