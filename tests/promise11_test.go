package tests

import (
	"strings"
	"testing"
)

const strictly = "\"use strict\";"

// callsOf are the ways in which a function of that body is made and called; its parameters are a and b.
func callsOf(body string) []string {
	f := "function (a, b) {" + body + "}"
	return []string{
		"function f(a, b) {" + body + "} f(1, 2)", "var f = " + f + "; f(1, 2)", "(" + f + ")(1, 2)", "function g() { return (" + f + ")(1, 2) } g()", "eval(" + quote("f = "+f) + "); f(1, 2)",
		"with ({}) { f = " + f + " } f(1, 2)", "var f; try { throw 0 } catch (e) { f = " + f + " } f(1, 2)", "function g() { eval(" + quote("function f(a, b) {"+body+"}") + "); return f } g()(1, 2)",
	}
}

func TestLooseAndStrictFunctions(t *testing.T) {
	for _, c := range []struct{ body, loose, strict string }{
		// arguments and parameters, written both ways.
		{"arguments[0] = 3; return a", "= 3", "= 1"}, {"a = 3; return arguments[0]", "= 3", "= 1"}, {"arguments[1] = 3; return b", "= 3", "= 2"}, {"b = 3; return arguments[1]", "= 3", "= 2"}, {"arguments[0] = 3; b = 4; return a * 10 + arguments[1]", "= 34", "= 12"},
		{"(function () { a = 7 })(); return arguments[0]", "= 7", "= 1"}, {"var o = arguments; (function () { o[0] = 7 })(); return a", "= 7", "= 1"}, {"a = 3; return a", "= 3", "= 3"}, {"arguments[0] = 3; return arguments[0]", "= 3", "= 3"}, {"delete arguments[0]; arguments[0] = 3; return a", "= 1", "= 1"},
		// A name that eval brings in, and its functions.
		{"eval(\"var x = 5\"); return typeof x", "= 'number'", "= 'undefined'"}, {"eval(\"function x() {}\"); return typeof x", "= 'function'", "= 'undefined'"}, {"eval(\"var a = 5\"); return a", "= 5", "= 1"}, {"eval(\"for (var x in {k: 1}) ;\"); return typeof x", "= 'string'", "= 'undefined'"},
		{"eval(\"a = 5\"); return a", "= 5", "= 5"}, {"return eval(\"var x = 5; x\")", "= 5", "= 5"}, {"eval(\"var x = 5\"); return (function () { return typeof x })()", "= 'number'", "= 'undefined'"}, {"(0 || eval)(\"var x = 5\"); return typeof x", "= 'number'", "= 'number'"}, {"eval(\"eval(\\\"var x = 5\\\")\"); return typeof x", "= 'number'", "= 'undefined'"},
		// this of each kind.
		{"return this", "= #0", "= undefined"}, {"return typeof this", "= 'object'", "= 'undefined'"}, {"return eval(\"this\")", "= #0", "= undefined"}, {"return (function () { return this })()", "= #0", "= undefined"}, {"var o = {f: function () { return this === o }}; return o.f()", "= true", "= true"},
		{"var o = {f: function () { return this }}, g = o.f; return g()", "= #0", "= undefined"}, {"var F = function () { this.q = 1 }; return (new F()).q", "= 1", "= 1"}, {"return (0 || eval)(\"this\")", "= #0", "= #0"}, {"this.q = 5; return 6", "= 6", "! 'TypeError'"},
		// What else strict code does not.
		{"none = 1; return 2", "= 2", "! 'ReferenceError'"}, {"(1).a = 2; return 3", "= 3", "! 'TypeError'"}, {"return delete (function () {}).prototype", "= false", "! 'TypeError'"}, {"for (none in {k: 1}) ; return 2", "= 2", "! 'ReferenceError'"}, {"return typeof none", "= 'undefined'", "= 'undefined'"},
	} {
		for _, text := range callsOf(c.body) {
			wantEnd(t, text, c.loose)
		}
		for _, text := range callsOf(strictly + c.body) {
			wantEnd(t, text, c.strict)
		}
		// What is in a strict program, or in a strict function, is strict, too.
		wantEnd(t, strictly+"(function (a, b) {"+c.body+"})(1, 2)", c.strict)
		wantEnd(t, "(function () {"+strictly+" return function (a, b) {"+c.body+"} })()(1, 2)", c.strict)
		wantEnd(t, "(function () { return function (a, b) {"+c.body+"} })()(1, 2)", c.loose)
	}
}

// A loose function's this, by what it is called with.
func TestThisOfEachKind(t *testing.T) {
	asked := func(mode string, plain string) string {
		return "function f() {" + mode + " return this } var o = {f: f}; o.f() === o && (0 || o.f)() === " + plain + " && (new f()) !== this && f() === " + plain + " && this.f() === this"
	}
	wantEnd(t, asked("", "this"), "= true")
	wantEnd(t, asked("", "undefined"), "= false")
	wantEnd(t, asked(strictly, "undefined"), "= true")
	wantEnd(t, asked(strictly, "this"), "= false")
	// Members of what is no object can't be functions: of a text only length is told.
	wantEnd(t, "\"abc\".f()", "! 'TypeError'")
	wantEnd(t, "(5).f()", "! 'TypeError'")
}

// In each place of a drawn body arguments and parameters are one, or are not.
func TestArgumentsInDrawnFunctions(t *testing.T) {
	d := &draws{state: 11}
	for range 300 {
		want, apart := []string{"1", "2", "3"}, []string{"1", "2", "3"}
		var body strings.Builder
		for range 1 + d.below(6) {
			at, value := d.below(3), decimal(10+d.below(90))
			name := string("abc"[at])
			switch d.below(4) {
			case 0:
				body.WriteString(name + " = " + value + ";")
				apart[at] = value
			case 1:
				body.WriteString("eval(\"" + name + " = " + value + "\");")
				apart[at] = value
			case 2:
				body.WriteString("arguments[" + decimal(at) + "] = " + value + ";")
			case 3:
				body.WriteString("(function (o) { o[" + decimal(at) + "] = " + value + " })(arguments);")
			}
			want[at] = value
		}
		text := body.String() + " print(a); print(b); print(c);"
		both := text + "print(arguments[0]); print(arguments[1]); print(arguments[2])"
		wantEnd(t, "function f(a, b, c) {"+both+"} f(1, 2, 3)", strings.Join(append(want, want...), " ")+" = undefined")
		wantEnd(t, "function f(a, b, c) {"+strictly+text+"} f(1, 2, 3)", strings.Join(apart, " ")+" = undefined")
	}
}
