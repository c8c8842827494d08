package tests

import (
	"reflect"
	"strings"
	"testing"

	"loop.example/g00317/impl"
)

func wantCode(t *testing.T, text string, code int64, at int) {
	t.Helper()
	want := impl.ScriptOut{At: int64(at), Code: code}
	if got := impl.ScriptRead(text); !reflect.DeepEqual(got, want) {
		t.Errorf("ScriptRead(%.300q):\n got %+v\nwant %+v", text, got, want)
	}
}

// wantWrong is of a text in which the byte ^ stands ahead of what the fault names.
func wantWrong(t *testing.T, code int64, marked string) {
	t.Helper()
	at := strings.Index(marked, "^")
	if at < 0 {
		t.Fatalf("no place in %q", marked)
	}
	wantCode(t, strings.Replace(marked, "^", "", 1), code, at)
}

func wantAllRead(t *testing.T, texts ...string) {
	t.Helper()
	for _, text := range texts {
		if got := impl.ScriptRead(text); got.Code != impl.OK || got.At != 0 || got.Node.Kind != impl.NProgram {
			t.Errorf("ScriptRead(%.300q): got %+v", text, got)
		}
	}
}

func TestReadTellsTheFaultsOfTokens(t *testing.T) {
	for _, text := range []string{
		"a @", "01", "var a = \"b", "a b @", ") 1a", "return #", "\"use strict\"; with (a) {} & b", "{{{ \"\\a\"",
		strings.Repeat(";", 601), strings.Repeat("{", 601), strings.Repeat(" ", 4001), strings.Repeat("@", 4001),
		strings.Repeat("x", 21), strings.Repeat("return ", 700),
	} {
		tokens := impl.Tokens(text)
		if tokens.Code == impl.OK {
			t.Errorf("%.50q has no fault", text)
		}
		wantCode(t, text, tokens.Code, int(tokens.At))
	}
	wantAllRead(t, strings.Repeat(";", 600), strings.Repeat(" ", 4000), strings.Repeat(" ", 3999)+"a")
	if got := impl.ScriptRead(strings.Repeat(";", 600)); impl.NodeCount(got.Node) != 601 {
		t.Errorf("%d Nodes of 600 statements", impl.NodeCount(got.Node))
	}
}

func TestTokensThatCantStandThere(t *testing.T) {
	for _, marked := range []string{
		"a ^b", "a ^1", "a ^\"b\"", "a ^{}", "^)", "^}", "a;^}", "{^", "{}^}", "^]", "^,", "^.", "^=", "^:", "^?",
		"^*", "^/ a", "^% a",
		"^+a", "^< a", "^== a", "^&& a", "^|| a", "^in a", "^else", "^catch (a) {}", "^finally {}", "^else a",
		"a ^, b", "a; ^)", "a = ^= b", "a = ^;", "a = ^", "a + ^", "a + ^+ b", "a - - ^* b", "a * ^/ b",
		"a && ^&& b", "!^", "typeof ^;", "delete^", "-^)",
		"a ? ^: b", "a ? b^", "a ? b ^; c", "a ? b : ^", "a ? ^? b : c : d", "a ? b : c ^: d",
		"1 ^= 2", "\"a\" ^= 1", "this ^= 1", "a() ^= 1", "new a() ^= 1", "!a ^= 1", "a + b ^= 1", "(a = b) ^= c",
		"(a ? b : c) ^= 1", "(function () {}) ^= 1", "({}) ^= 1", "a ? b : 1 ^= c", "-a ^= 1", "(1) ^= 2",
		"(^)", "(a^", "(a ^b)", "(a^]", "(a ^; b)", "(a ^, b)", "((a)^", "(^}",
		"a.^", "a.^1", "a.^if", "a.^\"b\"", "a.^(b)", "a.b.^",
		"a[^]", "a[b^", "a[b ^c]", "a[b^)", "a[b ^, c]",
		"a(^", "a(^,)", "a(b,^)", "a(b,^,c)", "a(b ^c)", "a(b^]", "a(b^;", "a(^}",
		"new ^", "new ^;", "new a^", "new a^;", "new a.b ^c", "new a\n^b()", "new ^new a()()", "new ^-a()",
		"new a[b] ^+ c", "new (a)^", "new a(b^", "new a(b,^)", "new (^)", "new ^if",
		"throw {^", "throw {^,}", "throw {a^}", "throw {a: ^}", "throw {a: 1^", "throw {a: 1,^}", "throw {^1: 1}",
		"throw {^if: 1}", "throw {a ^= 1}", "throw {a: 1 ^b: 1}", "throw {^-a: 1}", "throw {a: 1^; b: 1}",
		"throw {a: 1 ^]", "throw {^(a): 1}", "throw {a^, b}", "throw {^[a]: 1}",
		"{a^: 1}", "{\"a\"^: 1}", "{a^: 1, b: 1}", "{a^, b}",
		"throw function ^a() {}", "throw function^", "throw function (^", "throw function (a^",
		"throw function (a,^) {}", "throw function (^,) {}", "throw function (a ^b) {}", "throw function (^1) {}",
		"throw function (^if) {}", "throw function (a)^", "throw function (a) ^a", "throw function () {^",
		"throw function () {a^", "throw function () {a ^)", "throw function (a ^= 1) {}",
		"throw function (^\"a\") {}", "throw function () {^]}",
	} {
		wantWrong(t, impl.ErrSyntax, marked)
	}
}

func TestStatementsThatCantStandThere(t *testing.T) {
	for _, marked := range []string{
		"var^", "var ^;", "var ^1", "var ^if", "var ^= 1", "var ^\"a\"", "var a ^b", "var a,^", "var a,^;",
		"var a = ^;", "var a = ^, b", "var a = 1 ^b", "var a^.b", "var a ^== b", "var ^(a)", "var a ^in b",
		"var a ^+ 1", "var a = b ^: c",
		"function^", "function ^(a) {}", "function f^", "function f ^{}", "function f(^", "function f(a^",
		"function f(a,^) {}", "function f(^1) {}", "function f(a ^b) {}", "function f(^this) {}", "function f()^",
		"function f() ^a", "function f() {^", "function f() {a ^b}", "function f() {}^}", "function f() {} ^)",
		"function ^if() {}", "function ^1() {}", "function f^.g() {}", "function f(a)^;", "function f() {^)}",
		"if^", "if ^a", "if (^) a", "if (a^", "if (a)^", "if (a) ^)", "if (a) ^else b", "if (a) {^",
		"if (a) {} else^", "if (a) {} else ^}", "if (a^; b)", "if (a) b ^c", "if (a) {} else {} ^else {}",
		"if (a) b; c; ^else d", "if (a) {} else ^else", "if (a)\n^",
		"while^", "while ^a", "while (^) a", "while (a^", "while (a)^", "while (a) ^)", "while (a) {^",
		"while (a) ^else", "while (a ^b) c",
		"for^", "for ^a", "for (^) a", "for (^in a) b", "for (^1 in a) b", "for (a^", "for (a^) b", "for (a ^= 1) b",
		"for (a in ^) b", "for (a in b^", "for (a in b)^", "for (a in b) ^)", "for (var ^in a) b",
		"for (var a ^= 1 in b) c", "for (var a^, b in c) d", "for (a^.b in c) d", "for (^(a) in b) c", "for (^;;) a",
		"for (a^; b; c) d", "for (var ^var a in b) c", "for (^this in a) b", "for (^\"a\" in b) c",
		"for (a in b^; c) d", "for (a in b ^c) d",
		"while (a) break ^b", "while (a) continue ^b", "while (a) break^)", "while (a) {break ^break}", "while (a) {continue^",
		"with^", "with ^a", "with (^) a", "with (a^", "with (a)^", "with (a) ^)", "with (a) {^",
		"throw^", "throw ^if", "throw ^throw a", "throw ^var a",
		"try^", "try ^a", "try ^;", "try {^", "try {}^", "try {} ^a", "try {}\n^a", "try {} ^;", "try {} catch^",
		"try {} catch ^{}", "try {} catch (^) {}", "try {} catch (a^", "try {} catch (^1) {}",
		"try {} catch (a ^b) {}", "try {} catch (^if) {}", "try {} catch (a)^", "try {} catch (a) ^b",
		"try {} catch (a) {^", "try {} catch (a) {} ^catch (b) {}", "try {} finally^", "try {} finally ^a",
		"try {} finally {^", "try {} finally {} ^catch (a) {}", "try {} finally {} ^finally {}",
		"try {} catch (a^, b) {}", "try {} finally ^(a) {}", "try {} catch (a) {} finally {} ^finally {}",
		"{try {}^}",
		"{a ^b}", "{a; ^)}", "{a; b^", "{{}^", "{} {} ^)", "; ;^)", "{;^]}",
	} {
		wantWrong(t, impl.ErrSyntax, marked)
	}
}

func TestReturnBreakAndContinueOutOfPlace(t *testing.T) {
	for _, marked := range []string{
		"^return", "^return 1", "^return;", "a; ^return", "{^return}", "if (a) ^return", "if (a) {} else ^return a",
		"while (a) ^return", "while (a) {^return}", "for (a in b) ^return", "with (a) ^return",
		"try {^return} finally {}", "try {} catch (a) {^return}", "function f() {} ^return",
		"function f() { return } ^return", "throw function () {}\n^return", "(function () { return }); ^return",
		"\"use strict\"; ^return",
		"^return )", "^return return",
	} {
		wantWrong(t, impl.ErrEarly, marked)
	}
	for _, marked := range []string{
		"^#", "^#;", "a; ^#", "{^#}", "if (a) ^#", "if (a) {} else ^#", "with (a) {^#}", "try {^#} finally {}",
		"try {} finally {^#}",
		"function f() {^#}", "(function () {^#})", "while (a) {} ^#", "while (a) b; ^#",
		"while (a) {(function () {^#})}", "while (a) (function () {^#})", "for (a in b) {} ^#",
		"for (a in b) { c = function () { if (a) ^# } }",
		"while (function () { ^# }) {}", "for (a in function () { ^# }) {}", "while (a) { # } ^#",
		"while (a) { (function () { while (b) # }); # } ^#", "^# a", "^# )", "{^# #",
		"\"use strict\"; ^#",
	} {
		for _, word := range []string{"break", "continue"} {
			wantWrong(t, impl.ErrEarly, strings.ReplaceAll(marked, "#", word))
		}
	}
	for _, text := range []string{
		"while (a) #", "for (a in b) #", "for (var a in b) {#}", "while (a) {{{#}}}", "while (a) if (b) #",
		"while (a) {if (b) {} else {#}}", "while (a) with (b) {#}", "while (a) try {#} catch (a) {#} finally {#}",
		"while (a) while (b) #", "while (a) { while (b) {}; # }", "function f() { while (a) # }",
		"while (a) { (function () { while (b) # }); # }",
	} {
		wantAllRead(t, strings.ReplaceAll(text, "#", "break"), strings.ReplaceAll(text, "#", "continue"))
	}
	wantAllRead(t, "function f() { return }", "(function () { return 1 })", "function f() { while (a) { with (b) { if (c) return } } }",
		"function f() { try { return } finally { return 1 } }", "function f() { (function () {}); return }")
}

func TestFunctionsWithinStatements(t *testing.T) {
	for _, around := range []string{
		"{#}", "{a; #}", "{{#}}", "if (a) #", "if (a) {#}", "if (a) {} else #", "if (a) {} else {#}", "while (a) #",
		"while (a) {#}", "for (a in b) #",
		"for (var a in b) {#}", "with (a) #", "with (a) {#}", "try {#} finally {}", "try {} catch (a) {#}",
		"try {} finally {#}", "try {} catch (a) {} finally {#}",
	} {
		for _, outer := range []string{"#", "function f() {#}", "(function () {#})", "\"use strict\"; function f() {#}"} {
			if strings.Contains(outer, "strict") && strings.HasPrefix(around, "with") {
				continue
			}
			text := strings.ReplaceAll(outer, "#", around)
			wantWrong(t, impl.ErrEarly, strings.ReplaceAll(text, "#", "^function f() {}"))
			wantWrong(t, impl.ErrEarly, strings.ReplaceAll(text, "#", "^function ) {}"))
			wantWrong(t, impl.ErrEarly, strings.ReplaceAll(text, "#", "^function () {}"))
			wantAllRead(t, strings.ReplaceAll(text, "#", "(function () {})"), strings.ReplaceAll(text, "#", "a = function () { function g() {} }"))
		}
	}
	wantAllRead(t, "function f() {} function f() {}", "function f() { function g() {} function g() {} }",
		"{(function () { function f() {} })}", "{}function f() {}", "if (a) {}\nfunction f() {}", "while (a) b\nfunction f() {}", "a\nfunction f() {}")
}

func TestStrictHeads(t *testing.T) {
	for _, head := range []string{
		`"use strict"`, `"use strict";`, `"use strict"` + "\n", `"use strict"` + "\n;", ` "use strict" ; `,
		"// a\n\"use strict\" // b",
	} {
		wantRead(t, head, strict(program()))
		wantRead(t, "function f() {"+head+"\n}", program(strict(named(impl.SFunc, "f", nil))))
		wantRead(t, "throw function () {"+head+"\n}", program(tree(impl.SThrow, "", strict(function(nil)))))
	}
	for _, text := range []string{"a", "!a", "{}", ";", "var a", "1", "\"use strict\"", "new a()", "function a() {\"use strict\"}", "typeof a"} {
		kids := impl.ScriptRead(";" + text).Node.Kids[1:]
		wantRead(t, "\"use strict\";"+text, strict(program(kids...)))
		if text != ";" {
			wantRead(t, "\"use strict\"\n"+text, strict(program(kids...)))
		}
		wantRead(t, "function f() {\"use strict\";"+text+"}", program(strict(named(impl.SFunc, "f", nil, kids...))))
	}
	wantRead(t, "function f() {\"use strict\"}", program(strict(named(impl.SFunc, "f", nil))))
	wantRead(t, "\"use strict\";;", strict(program(tree(impl.SEmpty, ""))))
	wantRead(t, "\"use strict\"; \"use strict\"; \"use strict\"", strict(program(ask(textNode("use strict")), ask(textNode("use strict")))))
}

func TestTextsThatAreNoStrictHead(t *testing.T) {
	for _, text := range []string{
		`("use strict")`, `;"use strict"`, `a; "use strict"`, `"a"; "use strict"`, `{"use strict"}`,
		`if (a) "use strict"`, `"use strict" + 1`, `"use strict".a`, `"use strict"[a]`, `"use strict"()`,
		`"use strict" ? a : b`, `"use strict" in a`, `"use  strict"`, `" use strict"`, `"use strict "`,
		`"Use strict"`, `"use strict\n"`, `"use"`, `""`, `a = "use strict"`, `!"use strict"`,
		`throw "use strict"`, `var a = "use strict"`, `while (a) {"use strict"}`, `"use strict" === a`,
		`"use strict" && a`, `"use strict" * a`, `try {"use strict"} finally {}`, `with (a) "use strict"`,
		"\"use strict\"\n+ 1", "\"use strict\"\n- 1", "\"use strict\"\n.a", "\"use strict\"\n[a]",
		"\"use strict\"\n(a)", "\"use strict\"\n? a : b", "\"use strict\"\nin a", "\"use strict\"\n<= a",
		"\"use strict\"\n|| a", "\"use strict\" // x\n/ a",
	} {
		got := impl.ScriptRead(text + "; with (a) {}")
		if got.Code != impl.OK || got.Node.Strict || len(got.Node.Kids) < 2 {
			t.Errorf("ScriptRead(%q): got %+v", text, got)
		}
		wantRead(t, "function f(a, a) {"+text+"; with (a) {}}", program(named(impl.SFunc, "f", []string{"a", "a"}, got.Node.Kids...)))
		wantAllRead(t, "\"use strict\"; function f(a, b) {"+strings.ReplaceAll(text, "with (a)", "while (a)")+"}")
	}
	wantWrong(t, impl.ErrSyntax, "\"use strict\" ^a")
	wantWrong(t, impl.ErrSyntax, "\"use strict\" ^{}")
	wantWrong(t, impl.ErrSyntax, "\"use strict\" ^}")
	wantWrong(t, impl.ErrSyntax, "\"use strict\" ^= 1")
	wantWrong(t, impl.ErrSyntax, "\"use strict\"\n^= 1")
	wantWrong(t, impl.ErrSyntax, "\"use strict\"^, a")
	wantWrong(t, impl.ErrSyntax, "function f(a, a) {\"use strict\" ^a}")
}

func TestWhatIsStrict(t *testing.T) {
	inner := strict(function(nil, ask(a)))
	wantRead(t, "\"use strict\"; throw function () {a}", strict(program(tree(impl.SThrow, "", inner))))
	wantRead(t, "\"use strict\"; throw function () {\"use strict\"; a}", strict(program(tree(impl.SThrow, "", inner))))
	wantRead(t, "\"use strict\"; function f() {throw function () {a}}", strict(program(strict(named(impl.SFunc, "f", nil, tree(impl.SThrow, "", inner))))))
	wantRead(t, "function f() {\"use strict\"; throw function () {a}}", program(strict(named(impl.SFunc, "f", nil, tree(impl.SThrow, "", inner)))))
	wantRead(t, "function f() {throw function () {\"use strict\"; a}}", program(named(impl.SFunc, "f", nil, tree(impl.SThrow, "", inner))))
	wantRead(t, "function f() {\"use strict\"} throw function () {}", program(strict(named(impl.SFunc, "f", nil)), tree(impl.SThrow, "", function(nil))))
	wantRead(t, "function f() {throw function () {\"use strict\"; a}\nfunction g() {}}",
		program(named(impl.SFunc, "f", nil, tree(impl.SThrow, "", inner), named(impl.SFunc, "g", nil))))
	wantAllRead(t, "function f() {\"use strict\"} with (a) { delete a; eval = 1; var eval; for (arguments in a) {} }",
		"(function () {\"use strict\"}); function eval(a, a) {}")
}

// strictFaults has what is wrong in strict code alone.
var strictFaults = []string{
	"^with (a) {}", "^with (a) b", "if (a) ^with (a) {}", "{^with (a) {}}", "try {^with (a) {}} finally {}",
	"^delete a", "^delete a;", "^delete (a)", "^delete ((a))", "!^delete a", "delete ^delete a",
	"delete delete ^delete a", "a = ^delete b", "a[^delete b]", "a(b, ^delete c)", "new a(^delete b)",
	"^delete a + b", "a in ^delete b", "^delete eval", "^delete a\nb", "throw {a: ^delete a}", "^delete arguments",
	"delete a.b; ^delete a", "^delete a ? b : c", "a.b(^delete c).d", "if (^delete a) {}", "while (a) ^delete a",
	"eval ^= 1", "arguments ^= 1", "(eval) ^= 1", "((arguments)) ^= 1", "a = eval ^= 1", "a(eval ^= 1)",
	"(eval ^= 1)", "a ? eval ^= 1 : b", "a ? b : arguments ^= 1", "{a; eval ^= b}", "throw {a: eval ^= 1}",
	"a[eval ^= 1]", "var a = eval ^= 1", "eval\n^= 1", "for (a in eval ^= 1) {}",
	"var ^eval", "var ^arguments", "var a, ^eval", "var a = 1, ^arguments = 2", "var ^eval = 1",
	"while (a) {var ^eval}", "if (a) var ^arguments",
	"for (^eval in a) {}", "for (var ^eval in a) {}", "for (^arguments in a) {}", "for (var ^arguments in a) {}",
	"for (a in b) for (^eval in c) {}",
	"try {} catch (^eval) {}", "try {} catch (^arguments) {} finally {}", "try {try {} catch (^eval) {}} finally {}",
	"function ^eval() {}", "function ^arguments() {}", "function f(^eval) {}", "function f(^arguments) {}",
	"function f(a, ^eval) {}", "function f(a, ^a) {}", "function f(a, b, c, ^b) {}", "function f(a, ^a, a) {}",
	"function f(a, b, ^b, a) {}", "function ^eval(eval, eval) {}", "function f(^eval, a, a) {}",
	"function f(a, ^a, eval) {}", "function f(^eval, eval) {}",
	"throw function (^eval) {}", "throw function (^arguments, a) {}", "throw function (a, ^a) {}",
	"throw function (a, b, ^a, b) {}", "a(function () {}, function (a, ^a) {})",
}

func TestFaultsOfStrictCode(t *testing.T) {
	for _, marked := range strictFaults {
		wantAllRead(t, strings.Replace(marked, "^", "", 1))
		wantAllRead(t, "function f() {\"use strict\"}"+strings.Replace(marked, "^", "", 1))
		wantAllRead(t, "\"use  strict\";"+strings.Replace(marked, "^", "", 1))
		wantWrong(t, impl.ErrEarly, "\"use strict\";"+marked)
		if marked[0] != '(' {
			wantWrong(t, impl.ErrEarly, "\"use strict\"\n"+marked)
		}
		wantWrong(t, impl.ErrEarly, "\"use strict\"; a; "+marked)
		wantWrong(t, impl.ErrEarly, "function g() {\"use strict\"; "+marked+"}")
		wantWrong(t, impl.ErrEarly, "throw function () {\"use strict\"; "+marked+"}")
		wantWrong(t, impl.ErrEarly, "\"use strict\"; function g() {"+marked+"}")
		wantWrong(t, impl.ErrEarly, "\"use strict\"; function g() {\"use strict\"; "+marked+"}")
		wantWrong(t, impl.ErrEarly, "\"use strict\"; throw function () {return function () {;"+marked+"}}")
	}
}

// Names of a function are looked at by the Strict of its own body.
func TestNamesOfStrictFunctions(t *testing.T) {
	for _, marked := range []string{
		"function ^eval() {#}", "function f(^eval) {#}", "function f(a, ^a) {#}", "function f(^arguments, a, a) {#}",
		"function ^eval(a, a) {#}",
		"throw function (^eval) {#}", "throw function (a, ^a) {#}", "function g() { function ^arguments() {#} }",
		"{a = function (a, b, ^a) {#}}",
	} {
		for _, body := range []string{
			`"use strict"`, `"use strict";`, "\n\"use strict\"\n", `"use strict"; with (a) {}`, `"use strict"; return; delete a`,
			"\"use strict\"\nbreak", `"use strict"; )`, `"use strict"` + "\n= 1", "\"use strict\"; function a(b, b) {}",
		} {
			wantWrong(t, impl.ErrEarly, strings.ReplaceAll(marked, "#", body))
		}
		for _, body := range []string{
			"", ";", `("use strict")`, `"a"; "use strict"`, `"use strict" + 1`, "\"use strict\"\n+ 1", "return; \"use strict\"",
			"(function () {\"use strict\"})",
		} {
			plain := strings.Replace(strings.ReplaceAll(marked, "#", body), "^", "", 1)
			wantAllRead(t, plain)
			wantWrong(t, impl.ErrEarly, "\"use strict\";"+strings.ReplaceAll(marked, "#", body))
		}
	}
	wantAllRead(t, "\"use strict\"; function f(f) {}", "\"use strict\"; function f(a, b, c) {}",
		"\"use strict\"; (function (a, b) { function a(b) {} })",
		"\"use strict\"; function f() {} function f() {}",
		"\"use strict\"; a.eval = 1; a.arguments = 1; a = {eval: 1, arguments: 2}; eval(arguments)",
		"\"use strict\"; delete eval.a; delete a[b]; delete eval(a); delete !a; delete 1; delete this",
		"\"use strict\"; eval.a = 1; eval[a] = 1; typeof eval",
		"\"use strict\"; var evals, argument; for (Eval in a) {} try {} catch (Arguments) {}")
	wantWrong(t, impl.ErrEarly, "function f(a, ^a) {\"use strict\"")
}

// A fault that is met first is told, of whatever code it is.
func TestTheFirstFaultIsTold(t *testing.T) {
	for _, c := range []struct {
		code   int64
		marked string
	}{
		{impl.ErrEarly, "^return )"}, {impl.ErrSyntax, "^) return"}, {impl.ErrEarly, "^break; return"},
		{impl.ErrEarly, "^return; break"},
		{impl.ErrEarly, "^break b"}, {impl.ErrEarly, "^continue )"}, {impl.ErrSyntax, "a ^b; return"},
		{impl.ErrSyntax, "while ^) break"},
		{impl.ErrEarly, "{^function"}, {impl.ErrEarly, "{^function f( }"}, {impl.ErrEarly, "if (a) ^function f() {"},
		{impl.ErrEarly, "\"use strict\"; ^with )"}, {impl.ErrEarly, "\"use strict\"; ^with (delete a) {}"},
		{impl.ErrSyntax, "with ^) \"use strict\""},
		{impl.ErrEarly, "\"use strict\"; ^delete a )"}, {impl.ErrSyntax, "\"use strict\"; delete a.^)"},
		{impl.ErrSyntax, "\"use strict\"; delete ^)"},
		{impl.ErrEarly, "\"use strict\"; ^delete eval = 1"}, {impl.ErrEarly, "\"use strict\"; delete ^delete a = 1"},
		{impl.ErrSyntax, "\"use strict\"; delete a.b ^= 1"}, {impl.ErrSyntax, "\"use strict\"; delete (a ^b)"},
		{impl.ErrEarly, "\"use strict\"; eval ^= )"}, {impl.ErrEarly, "\"use strict\"; eval ^= delete a"},
		{impl.ErrEarly, "\"use strict\"; a = ^delete b, eval = 1"},
		{impl.ErrSyntax, "\"use strict\"; -eval ^= 1"}, {impl.ErrSyntax, "\"use strict\"; eval() ^= 1"},
		{impl.ErrSyntax, "\"use strict\"; a + eval ^= 1"},
		{impl.ErrEarly, "\"use strict\"; var ^eval )"}, {impl.ErrEarly, "\"use strict\"; var ^eval = delete a"},
		{impl.ErrEarly, "\"use strict\"; var a = ^delete b, eval"},
		{impl.ErrSyntax, "\"use strict\"; var a ^eval"}, {impl.ErrEarly, "\"use strict\"; for (^eval )"},
		{impl.ErrEarly, "\"use strict\"; for (^eval = 1"}, {impl.ErrEarly, "\"use strict\"; for (var ^eval"},
		{impl.ErrSyntax, "\"use strict\"; for ^eval"}, {impl.ErrEarly, "\"use strict\"; try {} catch (^eval {"},
		{impl.ErrSyntax, "\"use strict\"; try {} ^eval"},
		{impl.ErrSyntax, "\"use strict\"; function eval^"},
		{impl.ErrSyntax, "\"use strict\"; function eval(a, a) ^)"},
		{impl.ErrSyntax, "\"use strict\"; function eval(a, a ^a"},
		{impl.ErrEarly, "\"use strict\"; function ^eval(a, a) {"},
		{impl.ErrEarly, "\"use strict\"; function f(a, ^a) {)"},
		{impl.ErrEarly, "\"use strict\"; function f(a, ^a) {with (b) {}}"},
		{impl.ErrEarly, "\"use strict\"; function f(a, ^a) {break"},
		{impl.ErrEarly, "\"use strict\"; function f(a, ^a) {\"use strict\" b"},
		{impl.ErrEarly, "function f(a, ^a) {\"use strict\" "},
		{impl.ErrSyntax, "function f(a, a) {\"use strict\" ^1"},
		{impl.ErrSyntax, "function f(a, a) {^) \"use strict\""},
		{impl.ErrEarly, "function f() { ^break } return"},
		{impl.ErrEarly, "function f() { (function () { ^continue }) } function g(a, a) {\"use strict\"}"},
		{impl.ErrEarly, "function f(a, ^a) {\"use strict\"} return"},
		{impl.ErrEarly, "^return; function f(a, a) {\"use strict\"}"},
		{impl.ErrEarly, "function f(b, ^b) {\"use strict\"; function g(a, a) {}}"},
		{impl.ErrEarly, "function f(b, b) {function g(a, ^a) {\"use strict\"}}"},
		{impl.ErrEarly, "function f(b, b) {return; ^break; function g(a, a) {\"use strict\"}}"},
	} {
		wantWrong(t, c.code, c.marked)
	}
}
