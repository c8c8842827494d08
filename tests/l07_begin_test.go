package tests

import (
	"strings"
	"testing"

	"loop.example/g00317/impl"
)

func TestHowAProgramBegins(t *testing.T) {
	wantEnds(t, [][2]string{
		// Its names are there, undefined, and Fixed.
		{"a; var a = 1", "= undefined"}, {"typeof a; var a", "= 'undefined'"}, {"\"a\" in this; if (false) var a", "= true"}, {"\"k\" in this; for (var k in 1) ;", "= true"},
		{"\"a\" in this; function f() { var a }", "= false"}, {"\"a\" in this; eval(\"\"); a = 1", "= 1"}, {"\"k\" in this; for (k in 1) ;", "= false"},
		{"var a = 1; delete a", "= false"}, {"var a = 1; delete this.a; a", "= 1"}, {"a = 1; delete a", "= true"}, {"a = 1; delete this.a; typeof a", "= 'undefined'"},
		{"function f() {} delete f", "= false"}, {"for (var k in 1) ; delete k", "= false"},
		// Names that are there already stay as they are.
		{"typeof print; var print", "= 'function'"}, {"var print = 1; print", "= 1"}, {"var print; delete print", "= true"}, {"var eval; eval(\"1\")", "= 1"}, {"function print(a) { return a } print(5)", "= 5"},
		{"for (var k in this) print(k); var eval, print, z", "k z = undefined"}, {"var b, a; function c() {} for (k in this) print(k); k = 1", "b a c = 1"},
		// Functions are made ahead of all statements, in order, the last one of a name counts.
		{"f(); function f() { return 1 }", "= 1"}, {"f(); function f() { return 1 } function f() { return 2 }", "= 2"}, {"f; function f() {}", "= #3"},
		{"f; function f() {} function g() {} function f() {}", "= #7"}, {"var f = 1; f; function f() {}", "= 1"}, {"var f; typeof f; function f() {}", "= 'function'"}, {"f(); var f = 1; function f() { return g() } function g() { return f }", "= #3"},
		{"function f() { return 1 } f = 5; f", "= 5"}, {"function f() {} (function () {}); 1; f.prototype", "= #4"}, {"(function () {})", "= #3"}, {"({})", "= #3"}, {"function f() {} (function () {})", "= #5"},
		// Its this is the object 0.
		{"this", "= #0"}, {"\"use strict\"; this", "= #0"}, {"this.a = 1; a", "= 1"}, {"var a = 1; this.a", "= 1"}, {"this.a = 1; delete this.a; typeof a", "= 'undefined'"}, {"typeof this", "= 'object'"},
		{"this.eval", "= #1"}, {"this.print", "= #2"}, {"this.eval.prototype", "= undefined"}, {"print.prototype", "= undefined"}, {"for (k in this) print(k)", "= undefined"},
		{"for (k in eval) print(k)", "= undefined"}, {"print.a = 5; print.a", "= 5"}, {"print.a = 1; for (k in print) print(k)", "a = undefined"}, {"delete eval; typeof eval", "= 'undefined'"}, {"delete this.print", "= true"},
		{"eval = 1; eval", "= 1"}, {"eval = 1; for (var k in this) print(k)", "k = undefined"}, {"delete eval; eval = 1; for (var k in this) print(k)", "k eval = undefined"}, {"\"toString\" in this", "= false"},
	}...)
}

// The value of a program is that of the last SExpr that ran in it.
func TestValueOfAProgram(t *testing.T) {
	wantEnds(t, [][2]string{
		{"", "= undefined"}, {";", "= undefined"}, {"var a = 1", "= undefined"}, {"1", "= 1"}, {"1; 2", "= 2"}, {"1; var a = 2; ;", "= 1"}, {"1; undefined", "= undefined"},
		{"1; function f() { 2 } f", "= #3"}, {"1; function f() { 2 } var a = f()", "= 1"}, {"function f() { 2; return 3 } f()", "= 3"}, {"function f() { 2 } f()", "= undefined"},
		{"if (true) { 1 }", "= 1"}, {"1; if (false) { 2 }", "= 1"}, {"1; if (false) 2; else 3", "= 3"}, {"1; {{ 2 }}", "= 2"}, {"1; {}", "= 1"}, {"var i = 0; while (i < 3) { i = i + 1; i * 10 }", "= 30"},
		{"5; while (false) 6", "= 5"}, {"for (k in {a: 1, b: 2}) k + \"!\"", "= 'b!'"}, {"1; for (k in {}) 2", "= 1"}, {"with ({a: 7}) a", "= 7"}, {"try { 1 } finally { 2 }", "= 2"}, {"try { 1 } finally { }", "= 1"},
		{"try { 1; throw 2; 3 } catch (e) { e + 5 }", "= 7"}, {"try { 1; none; 3 } catch (e) { }", "= 1"}, {"1; try { throw 2 } catch (e) { }", "= 1"}, {"while (true) { 4; break; 5 }", "= 4"},
		{"1; var a = eval(\"2\")", "= 1"}, {"1; eval(\"2; var a = 3\")", "= 2"}, {"eval(\"2;;\"); var b = 1", "= 2"}, {"1; eval(\"\")", "= undefined"}, {"eval(\"1; if (false) 2\")", "= 1"}, {"eval(\"function f() { 5 } 1; f()\")", "= undefined"},
		{"1; throw 2", "! 2"}, {"1; throw this", "! #0"}, {"throw \"\"", "! ''"}, {"throw {}", "! #3"}, {"throw null", "! null"}, {"throw -1", "! -1"}, {"throw -\"a\"", "! NaN"}, {"throw 1 < 2", "! true"}, {"1; try { 2 } finally { throw 3 }", "! 3"},
		{"\"use strict\"", "= undefined"}, {"(\"use strict\")", "= 'use strict'"}, {"1; \"use strict\"", "= 'use strict'"},
	}...)
}

func TestHowAFunctionBegins(t *testing.T) {
	wantEnds(t, [][2]string{
		// Its names are there, undefined; parameters have the arguments.
		{"function f() { return a; var a = 1 } f()", "= undefined"}, {"var a = 1; function f() { return a; var a } f()", "= undefined"}, {"function f(a, b) { return b } f(1)", "= undefined"}, {"function f(a, b) { return a * 10 + b } f(1, 2)", "= 12"},
		{"function f(a) { return a } f(1, 2, 3)", "= 1"}, {"function f(a) { var a; return a } f(1)", "= 1"}, {"function f(a) { return a; var a = 2 } f(1)", "= 1"}, {"function f() { return k; for (var k in 1) ; } f()", "= undefined"},
		{"var k = 5; function f() { for (k in {a: 1}) ; } f(); k", "= 'a'"}, {"var k = 5; function f() { for (var k in {a: 1}) ; } f(); k", "= 5"}, {"function f() { var a = 1 } f(); typeof a", "= 'undefined'"},
		// Of like parameters the last counts.
		{"function f(a, a) { return a } f(1, 2)", "= 2"}, {"function f(a, b, a) { return a } f(1, 2, 3)", "= 3"}, {"function f(a, b, a) { return b } f(1, 2, 3)", "= 2"}, {"function f(a, a) { return a } f(1)", "= undefined"}, {"function f(a, b, a) { return a } f(1, 2)", "= undefined"}, {"function f(a, b, a) { return b } f(1, 2)", "= 2"},
		// arguments is an object, unless it is a parameter.
		{"function f() { return arguments.length } f()", "= 0"}, {"function f(a) { return arguments.length } f(1, 2, 3)", "= 3"}, {"function f(a, b) { return arguments.length } f(1)", "= 1"}, {"function f(a) { return arguments[1] } f(1, 2)", "= 2"},
		{"function f(arguments) { return arguments } f(7)", "= 7"}, {"function f(a, arguments) { return arguments } f(7)", "= undefined"}, {"function f(a, arguments) { return arguments } f(7, 8)", "= 8"},
		{"function f() { return arguments; var arguments } f()", "= #5"}, {"function f() { var arguments = 1; return arguments } f()", "= 1"}, {"function f() { return arguments(); function arguments() { return 9 } } f()", "= 9"}, {"function f() { return arguments } f()", "= #5"},
		{"function f() { return typeof arguments } f()", "= 'object'"}, {"function f() { for (k in arguments) print(k) } f(1, 2)", "0 1 = undefined"}, {"function f() { return delete arguments } f()", "= false"}, {"function f() { return delete arguments.length } f()", "= true"},
		{"function f() { arguments.length = 9; for (k in arguments) print(k); return arguments.length } f(1)", "0 = 9"}, {"function f() { delete arguments.length; arguments.length = 9; for (k in arguments) print(k) } f(1)", "0 length = undefined"},
		{"function f() { return \"1\" in arguments } f(1)", "= false"}, {"function f() { return \"0\" in arguments } f(undefined)", "= true"}, {"arguments", "! 'ReferenceError'"},
		// Functions are made ahead of all statements, and stand above parameters and names.
		{"function f(a) { return a; function a() {} } typeof f(1)", "= 'function'"}, {"function f() { return g(); function g() { return 1 } function g() { return 2 } } f()", "= 2"}, {"function f() { return typeof g; var g = 1; function g() {} } f()", "= 'function'"},
		{"function f() { var g = 1; return g; function g() {} } f()", "= 1"}, {"function f() { function g() { return 1 } return g } f() === f()", "= false"}, {"function f(a) { function g() { return a } return g } var g = f(1), h = f(2); g() * 10 + h()", "= 12"},
		{"function f() { return g } f(); function g() {}", "= #5"}, {"function f() { function g() {} return g } f()", "= #6"}, {"function f() { function g() { } function h() { } return h.prototype } f()", "= #9"}, {"function f(arguments) { function g() {} return g } f()", "= #5"},
		{"function f(f) { return f } f(3)", "= 3"}, {"function f() { f = 1 } f(); f", "= 1"},
	}...)
}

func TestThisOfACall(t *testing.T) {
	for _, c := range []struct{ text, loose, strict string }{
		{"function f() { @ return this } f()", "#0", "undefined"}, {"function f() { @ return this } (1 ? f : 0)()", "#0", "undefined"}, {"var o = {f: function () { @ return this }}; o.f()", "#3", "#3"},
		{"var o = {f: function () { @ return this }}; o[\"f\"]()", "#3", "#3"}, {"var o = {f: function () { @ return this }}; (o.f)()", "#3", "#3"}, {"var o = {f: function () { @ return this }}; (0 || o.f)()", "#0", "undefined"},
		{"var o = {f: function () { @ return this }}, g = o.f; g()", "#0", "undefined"}, {"var o = {f: function () { @ return this }}; with (o) f()", "#3", "#3"}, {"function F() { @ return this } new F()", "#5", "#5"},
		{"function f() { @ return this } this.f()", "#0", "#0"}, {"function f() { @ return this } f.f = f; f.f()", "#3", "#3"}, {"function f() { @ return this } var a = {}; with (a) f()", "#0", "undefined"},
		{"function f() { @ return this } with (this) f()", "#0", "#0"}, {"function f() { @ return this } with ({f: f}) eval(\"f()\")", "#5", "#5"}, {"function f() { @ return eval(\"this\") } f()", "#0", "undefined"},
		{"var o = {f: function () { @ return eval(\"this\") }}; o.f()", "#3", "#3"}, {"function f() { @ return this } (function () { with ({f: f}) return (function () { return f() })() })()", "#8", "#8"},
		{"function f() { @ return this } try { throw f } catch (e) { e() }", "#0", "undefined"}, {"(function () { @ return this })()", "#0", "undefined"},
		{"var o = {f: function () { @ return function () { return this } }}; o.f()()", "#0", "undefined"}, {"var a = {f: function () { @ return this }}; function F() {} F.prototype = a; var b = new F(); b.f()", "#8", "#8"},
		{"var a = {f: function () { @ return this }}; function F() {} F.prototype = a; with (new F()) f()", "#8", "#8"}, {"var o = {f: function () { @ return (0 || eval)(\"this\") }}; o.f()", "#0", "#0"},
	} {
		wantEnd(t, strings.ReplaceAll(c.text, "@", ""), "= "+c.loose)
		wantEnd(t, strings.ReplaceAll(c.text, "@", "\"use strict\";"), "= "+c.strict)
	}
}

// A function is an object of Props of its own: prototype, which has constructor.
func TestObjectsOfAFunction(t *testing.T) {
	const f = "function f() {} "
	wantEnds(t, [][2]string{
		{f + "f", "= #3"}, {f + "f.prototype", "= #4"}, {f + "f.prototype.constructor", "= #3"}, {f + "typeof f", "= 'function'"}, {f + "typeof f.prototype", "= 'object'"},
		{f + "for (k in f) print(k)", "= undefined"}, {f + "for (k in f.prototype) print(k)", "= undefined"}, {f + "delete f.prototype", "= false"}, {f + "delete f.prototype.constructor", "= true"},
		{f + "delete f.prototype.constructor; f.prototype.constructor", "= undefined"}, {"\"use strict\";" + f + "delete f.prototype", "! 'TypeError'"}, {"\"use strict\";" + f + "delete f.prototype.constructor", "= true"},
		{f + "f.prototype = 1; f.prototype", "= 1"}, {f + "f.prototype = 1; for (k in f) print(k); delete f.prototype", "= false"}, {f + "delete f.prototype.constructor; f.prototype.constructor = 1; for (k in f.prototype) print(k)", "constructor = undefined"},
		{f + "f.a = 1; for (k in f) print(k); f.a", "a = 1"}, {f + "\"constructor\" in f", "= false"}, {f + "\"prototype\" in f", "= true"}, {f + "\"a\" in f", "= false"}, {f + "f.name", "= undefined"}, {f + "f.length", "= undefined"},
		{"var g = function () {}; g.prototype.constructor === g", "= true"}, {"(function () {}).prototype", "= #4"}, {"var g = function () {}, h = function () {}; g === h || g.prototype === h.prototype", "= false"},
		{f + "var o = new f(); o.constructor === f", "= true"}, {f + "var o = new f(); for (k in o) print(k); o.constructor = 1; for (k in o) print(k)", "constructor = undefined"}, {f + "var o = new f(); o.constructor = 1; f.prototype.constructor", "= #3"},
	}...)
}

// deepest is a script in which f calls itself so many times; the outermost call is one of them.
func deepest(head string, calls int) string {
	return head + "; function f(n) { if (n > 1) return 1 + f(n - 1); return 1 } try { print(f(" + decimal(calls) + ")) } catch (e) { print(e) } f(1)"
}

func TestCallsWithinOneAnother(t *testing.T) {
	wantEnd(t, deepest("", 1), "1 = 1")
	wantEnd(t, deepest("", 29), "29 = 1")
	wantEnd(t, deepest("", 30), "30 = 1")
	wantEnd(t, deepest("", 31), "RangeError = 1")
	wantEnd(t, deepest("", 40), "RangeError = 1")
	wantEnd(t, deepest("\"use strict\"", 30), "30 = 1")
	wantEnd(t, deepest("\"use strict\"", 31), "RangeError = 1")
	for _, c := range []struct {
		text  string
		calls int
	}{
		{"function f(n) { return n > 1 ? 1 + f(n - 1) : 1 } f(@)", 30}, {"var f = {g: function (n) { return n > 1 ? 1 + this.g(n - 1) : 1 }}; f.g(@)", 30},
		{"function f(n) { this.n = n > 1 ? 1 + (new f(n - 1)).n : 1 } (new f(@)).n", 30}, {"function f(arguments) { return arguments > 1 ? 1 + f(arguments - 1) : 1 } f(@)", 30},
		// Eval code is a call, by its name and otherwise, loose and strict; what is no text is none, nor is print.
		{"function f(n) { return eval(\"n > 1 ? 1 + f(n - 1) : 1\") } f(@)", 15}, {"function f(n) { \"use strict\"; return eval(\"n > 1 ? 1 + f(n - 1) : 1\") } f(@)", 15}, {"var e = eval; function f(m) { n = m; return e(\"n > 1 ? 1 + f(n - 1) : 1\") } f(@)", 15},
		{"function f(n) { eval(n); print(n); return n > 1 ? 1 + f(n - 1) : 1 } f(@)", 30}, {"function f(n) { return n > 1 ? eval(1 + f(n - 1)) : 1 } f(@)", 30}, {"function f(n) { eval(\"1\"); return n > 1 ? 1 + f(n - 1) : 1 } f(@)", 29},
		{"var n = @ + 1, s = \"n = n - 1; n > 0 ? 1 + eval(s) : 0\"; eval(s)", 29}, {"function f(n) { try { return n > 1 ? 1 + f(n - 1) : 1 } finally { n } } f(@)", 30}, {"function g() { return 1 } function f(n) { return n > 1 ? g() + f(n - 1) : 1 } f(@)", 30},
		{"function g() { return 1 } function f(n) { return n > 1 ? 1 + f(n - 1) : g() } f(@)", 29}, {"function f(n) { if (n > 1) { var o = {a: f(n - 1)}; return 1 + o.a } return 1 } f(@)", 30},
	} {
		for i, want := range []string{"= " + decimal(c.calls), "! 'RangeError'"} {
			text := strings.ReplaceAll(c.text, "@", decimal(c.calls+i))
			got := endOf(impl.Run(text, allSteps))
			if !strings.HasSuffix(got, want) {
				t.Errorf("%s: got %s, want %s", text, got, want)
			}
		}
	}
	wantEnds(t, [][2]string{
		// It is thrown as any other value, where the call stands; what was called is left again.
		{"function f(n) { try { return f(n + 1) } catch (e) { return n + e } } f(1)", "= '30RangeError'"}, {"function f(n) { f(n + 1) } try { f(1) } catch (e) { } try { f(1) } catch (e) { e }", "= 'RangeError'"},
		{"var n = 0; function f() { n = n + 1; f() } try { f() } catch (e) { } n", "= 30"}, {"var n = 0; function f() { n = n + 1; f() } try { f() } catch (e) { } try { f() } catch (e) { } n", "= 60"},
		{"var n = 0; function f() { f(n = n + 1) } try { f() } catch (e) { } n", "= 30"}, {"function f() { f(print) } try { f() } catch (e) { print(e) } f.prototype", "RangeError = #4"},
		{"var n = 0; function f() { n = n + 1; try { eval(\"f()\") } catch (e) { print(e) } } f(); n", "RangeError = 15"}, {"function f(n) { return n < 30 ? f(n + 1) : print(\"p\") } f(1)", "p = undefined"}, {"function f(n) { return n < 30 ? f(n + 1) : eval(5) } f(1)", "= 5"},
		// The text is read ahead of it; what is called must be a function.
		{"function f(n) { return n < 30 ? f(n + 1) : eval(\"(\") } f(1)", "! 'SyntaxError'"}, {"function f(n) { return n < 30 ? f(n + 1) : eval(\"\") } f(1)", "! 'RangeError'"}, {"function f(n) { return n < 30 ? f(n + 1) : n() } f(1)", "! 'TypeError'"},
		{"function f(n) { return n < 30 ? f(n + 1) : f(print(1)) } f(1)", "1 ! 'RangeError'"},
	}...)
}
