package tests

import (
	"strings"
	"testing"

	"loop.example/g00317/impl"
)

// In these texts a byte 39 stands for a quoted one of a text within a text, to be read.
func nestedText(text string) string {
	return strings.ReplaceAll(text, "'", "\\\"")
}

func wantEvals(t *testing.T, list ...[2]string) {
	t.Helper()
	for _, c := range list {
		wantEnd(t, nestedText(c[0]), c[1])
	}
}

func TestEvalCode(t *testing.T) {
	wantEvals(t, [][2]string{
		// What is no text is told.
		{"eval(1)", "= 1"}, {"eval(true)", "= true"}, {"eval({})", "= #3"}, {"eval(eval)", "= #1"}, {"var e = eval; e(7)", "= 7"}, {"\"use strict\"; eval(1)", "= 1"},
		// Its value is that of a program.
		{"eval(\"\")", "= undefined"}, {"eval(\"1; 2\")", "= 2"}, {"eval(\"1; var a = 2\")", "= 1"}, {"eval(\"if (false) 1\")", "= undefined"}, {"eval(\"'a' + 'b'\")", "= 'ab'"}, {"eval(\"({a: 5})\").a", "= 5"}, {"eval(\"{a: 5}\")", "! 'SyntaxError'"}, {"eval(\"(function () { return 3 })\")()", "= 3"}, {"eval(\"throw 4\")", "! 4"},
		{"try { eval(\"1; none\") } catch (e) { e }", "= 'ReferenceError'"}, {"eval(\"eval('1 + 1')\")", "= 2"}, {"eval(\"1;\" + \"2\")", "= 2"}, {"1 + eval(\"2\") * 3", "= 7"}, {"eval(\"'use strict'\")", "= undefined"}, {"eval(\"('use strict')\")", "= 'use strict'"}, {"eval(\"while (true) { 1; break }\")", "= 1"},
		// Its faults are thrown.
		{"eval(\"(\")", "! 'SyntaxError'"}, {"eval(\"return\")", "! 'SyntaxError'"}, {"function f() { eval(\"return 1\") } f()", "! 'SyntaxError'"}, {"while (true) eval(\"break\")", "! 'SyntaxError'"}, {"for (k in {a: 1}) eval(\"continue\")", "! 'SyntaxError'"}, {"eval(\"#\")", "! 'SyntaxError'"}, {"eval(\"if (1) function f() {}\")", "! 'SyntaxError'"},
		{"try { eval(\"print(1); (\") } catch (e) { e }", "= 'SyntaxError'"}, {"eval(\"'use strict'; with (this) {}\")", "! 'SyntaxError'"}, {"eval(\"'use strict'; delete a\")", "! 'SyntaxError'"}, {"eval(\"'use strict'; eval = 1\")", "! 'SyntaxError'"}, {"eval(\"" + strings.Repeat("!", 40) + "1\")", "! 'SyntaxError'"},
		{"eval(\"" + strings.Repeat("!", 37) + "1\")", "= false"}, {"eval(\"" + strings.Repeat(";", 601) + "\")", "! 'SyntaxError'"}, {"eval(\"1" + strings.Repeat(";", 599) + "\")", "= 1"}, {"eval(\"1" + strings.Repeat(" ", 999) + "\")", "= 1"}, {"eval(\"1" + strings.Repeat(" ", 1000) + "\")", "= NaN"},
		// In strict code it is strict, if it is called by its name.
		{"\"use strict\"; eval(\"with (this) {}\")", "! 'SyntaxError'"}, {"\"use strict\"; this.eval(\"with (this) { 5 }\")", "= 5"}, {"\"use strict\"; var e = eval; e(\"with (this) { 5 }\")", "= 5"}, {"\"use strict\"; (0 || eval)(\"with (this) { 5 }\")", "= 5"}, {"\"use strict\"; eval(\"eval = 1\")", "! 'SyntaxError'"},
		{"\"use strict\"; eval(\"function f(a, a) {}\")", "! 'SyntaxError'"}, {"\"use strict\"; eval(\"var arguments\")", "! 'SyntaxError'"}, {"\"use strict\"; eval(\"delete print\")", "! 'SyntaxError'"}, {"function f() { \"use strict\"; return eval(\"with (this) {}\") } f()", "! 'SyntaxError'"}, {"function f() { \"use strict\"; return function () { return eval(\"with (this) {}\") } } f()()", "! 'SyntaxError'"},
		{"function f() { \"use strict\"; } f(); eval(\"with (this) { 5 }\")", "= 5"}, {"\"use strict\"; eval(\"eval('with (this) {}')\")", "! 'SyntaxError'"}, {"eval(\"'use strict'; eval('with (this) {}')\")", "! 'SyntaxError'"}, {"\"use strict\"; eval(\"(function () { return this })()\")", "= undefined"}, {"eval(\"(function () { return this })()\")", "= #0"},
		{"\"use strict\"; this.eval(\"(function () { return this })()\")", "= #0"}, {"\"use strict\"; eval(\"'use strict'; 1\")", "= 1"}, {"\"use strict\"; eval(\"(function (a) { arguments[0] = 2; return a })(1)\")", "= 1"}, {"\"use strict\"; this.eval(\"(function (a) { arguments[0] = 2; return a })(1)\")", "= 2"}, {"\"use strict\"; eval(\"(1).a = 2\")", "! 'TypeError'"},
		{"\"use strict\"; this.eval(\"(1).a = 2\")", "= 2"},
	}...)
}

func TestWhereEvalCodeRuns(t *testing.T) {
	wantEvals(t, [][2]string{
		// By its name it stands where the call does, otherwise outermost.
		{"var a = 1; function f() { var a = 2; return eval(\"a\") } f()", "= 2"}, {"var a = 1; function f() { var a = 2; return this.eval(\"a\") } f()", "= 1"}, {"var a = 1; function f() { var a = 2, e = eval; return e(\"a\") } f()", "= 1"}, {"var a = 1; function f() { var a = 2; return (0 || eval)(\"a\") } f()", "= 1"},
		{"var a = 1; function f() { var a = 2; return (eval)(\"a\") } f()", "= 2"}, {"var a = 1; function f(eval) { var a = 2; return eval(\"a\") } f(eval)", "= 2"}, {"var a = 1; function f(eval) { return eval(\"a\") } f(print)", "a = undefined"}, {"var a = 1; with ({eval: eval, a: 2}) eval(\"a\")", "= 2"}, {"var a = 1; with ({eval: print, a: 2}) eval(\"a\")", "a = undefined"},
		{"var a = 1, o = {eval: eval, a: 2}; with ({a: 3}) o.eval(\"a\")", "= 1"}, {"var a = 1; with ({a: 2}) eval(\"a\")", "= 2"}, {"var a = 1; with ({a: 2}) this.eval(\"a\")", "= 1"}, {"try { throw 2 } catch (a) { eval(\"a\") }", "= 2"}, {"var a = 1; try { throw 2 } catch (a) { this.eval(\"a\") }", "= 1"}, {"function f() { var a = 2; this.eval(\"a\") } f()", "! 'ReferenceError'"},
		{"function f(a) { eval(\"a = 5\"); return a } f(1)", "= 5"}, {"var o = {a: 1}; with (o) eval(\"a = 5\"); o.a", "= 5"}, {"try { throw 2 } catch (a) { eval(\"a = 5\"); a }", "= 5"}, {"function f() { var a = 2; this.eval(\"a = 5\"); return a } f() * 10 + a", "= 25"}, {"function f() { return eval(\"arguments.length\") } f(1, 2)", "= 2"}, {"function f() { return this.eval(\"arguments\") } f(1)", "! 'ReferenceError'"},
		{"var o = {f: function () { return eval(\"this\") }}; o.f()", "= #3"}, {"var o = {f: function () { return (0 || eval)(\"this\") }}; o.f()", "= #0"}, {"eval(\"this\")", "= #0"}, {"with ({}) eval(\"this\")", "= #0"}, {"var o = {f: eval}; o.f(\"this\")", "= #0"}, {"function f() { \"use strict\"; return eval(\"this\") } f()", "= undefined"}, {"function f() { \"use strict\"; return eval(\"(0 || eval)('this')\") } f()", "= #0"},
		{"function f(a) { return eval(\"(function () { return a })\") } f(4)()", "= 4"}, {"function f(a) { return eval(\"eval('a')\") } f(4)", "= 4"}, {"var a = 1; function f(a) { return (0 || eval)(\"eval('a')\") } f(4)", "= 1"}, {"function f(a) { return eval(\"(0 || eval)('typeof a')\") } f(4)", "= 'undefined'"}, {"function f(a) { with ({b: 2}) try { throw 3 } catch (c) { return eval(\"a * 100 + b * 10 + c\") } } f(1)", "= 123"},
	}...)
}

func TestNamesThatEvalBrings(t *testing.T) {
	wantEvals(t, [][2]string{
		// Into the record of the function, or Props of the object 0: they may be deleted.
		{"function f() { eval(\"var x = 1\"); return x } f()", "= 1"}, {"function f() { eval(\"var x = 1\"); return x } f(); typeof x", "= 'undefined'"}, {"function f() { eval(\"var x = 1\"); return delete x } f()", "= true"}, {"function f() { eval(\"var x = 1\"); delete x; return typeof x } f()", "= 'undefined'"}, {"function f() { eval(\"var x\"); return x } f()", "= undefined"},
		{"function f() { eval(\"for (var k in {a: 1}) ;\"); return k } f()", "= 'a'"}, {"function f() { eval(\"function g() { return 1 }\"); return g() } f()", "= 1"}, {"function f() { eval(\"function g() {}\"); return delete g } f()", "= true"}, {"function f() { eval(\"function g() {}\"); delete g; return typeof g } f()", "= 'undefined'"}, {"function f() { return eval(\"typeof x; var x = 1\") } f()", "= 'undefined'"},
		{"eval(\"var x = 1\"); x", "= 1"}, {"eval(\"var x = 1\"); this.x", "= 1"}, {"eval(\"var x = 1\"); delete x", "= true"}, {"eval(\"var x = 1\"); delete this.x; typeof x", "= 'undefined'"}, {"eval(\"function g() { return 1 }\"); delete g", "= true"}, {"eval(\"var x\"); \"x\" in this", "= true"}, {"eval(\"var x, y; function g() {}\"); for (k in this) print(k)", "x y g = undefined"},
		{"function f() { this.eval(\"var x = 1\"); } f(); print(x); delete x", "1 = true"}, {"function f() { var e = eval; e(\"var x = 1\"); return typeof x } f() + x", "= 'number1'"}, {"function f() { (0 || eval)(\"function g() { return 1 }\") } f(); g()", "= 1"}, {"eval(\"var x = 1; delete x\")", "= true"}, {"eval(\"if (false) var x\"); \"x\" in this", "= true"},
		// Names that are there stay as they are, and may be deleted as before.
		{"var x = 5; eval(\"var x\"); x", "= 5"}, {"var x = 5; eval(\"var x = 6\"); x", "= 6"}, {"var x = 5; eval(\"var x = 6\"); delete x", "= false"}, {"function f(x) { eval(\"var x\"); return x } f(5)", "= 5"}, {"function f(x) { eval(\"var x = 6\"); return delete x } f(5)", "= false"}, {"function f() { var x = 5; eval(\"var x = 6\"); return x } f()", "= 6"},
		{"function f() { eval(\"var arguments = 6\"); return delete arguments } f()", "= false"}, {"function f() { eval(\"var arguments\"); return arguments.length } f(1)", "= 1"}, {"x = 1; eval(\"var x\"); delete x", "= true"}, {"eval(\"var x = 1\"); eval(\"var x\"); x", "= 1"}, {"eval(\"var x = 1\"); eval(\"var x\"); delete x", "= true"}, {"eval(\"var print\"); typeof print", "= 'function'"},
		{"function g() { return 1 } eval(\"function g() { return 2 }\"); g()", "= 2"}, {"function g() { return 1 } eval(\"function g() { return 2 }\"); delete g", "= false"}, {"function f(g) { eval(\"function g() { return 2 }\"); return g() } f(1)", "= 2"}, {"eval(\"function g() { return 1 } function g() { return 2 }\"); g()", "= 2"}, {"eval(\"g(); function g() { return 1 }\")", "= 1"}, {"eval(\"var g = 1; g; function g() {}\")", "= 1"},
		{"var x = 5; function f() { eval(\"var x\"); return x } f()", "= undefined"}, {"function f() { eval(\"var x = 1\"); eval(\"delete x\"); return typeof x } f()", "= 'undefined'"}, {"var x = 5; function f() { eval(\"var x = 1\"); delete x; return x } f()", "= 5"}, {"function f() { eval(\"var x = 1\"); delete x; eval(\"var x\"); return x } f()", "= undefined"},
		// Not into records between: that of a catch, or of an object.
		{"function f() { with ({}) { eval(\"var x = 1\") } return x } f()", "= 1"}, {"var o = {}; function f() { with (o) { eval(\"var x = 1\") } return \"x\" in o } f()", "= false"}, {"var o = {x: 5}; function f() { with (o) { eval(\"var x = 1\") } return x } f()", "= undefined"}, {"var o = {x: 5}; function f() { with (o) { eval(\"var x = 1\") } return o.x } f()", "= 1"},
		{"function f() { try { throw 1 } catch (e) { eval(\"var x = 2\") } return x } f()", "= 2"}, {"function f() { try { throw 1 } catch (e) { eval(\"var e = 2\"); print(e) } return e } f()", "2 = undefined"}, {"with ({}) eval(\"var x = 1\"); this.x", "= 1"}, {"try { throw 1 } catch (e) { eval(\"var e = 2; var x = 3\"); print(e) } print(this.e); this.x", "2 undefined = 3"},
		{"with ({x: 5}) eval(\"function x() { return 1 }\"); x()", "= 1"}, {"function f() { try { throw 1 } catch (g) { eval(\"function g() { return 2 }\"); print(g) } return g() } f()", "1 = 2"}, {"function f() { eval(\"eval('var x = 1')\"); return x } f()", "= 1"}, {"function f() { eval(\"eval('var x = 1')\"); return delete x } f()", "= true"}, {"function f() { eval(\"(0 || eval)('var x = 1')\"); } f(); x", "= 1"},
		// What is in functions of its own is theirs.
		{"eval(\"function g() { var x = 1; return x }\"); g(); typeof x", "= 'undefined'"}, {"eval(\"(function () { var x = 1; eval('var y = 2'); return x + y })()\") + typeof y", "= '3undefined'"}, {"eval(\"(function () { eval('var y = 2') })()\"); typeof y", "= 'undefined'"},
		// Functions of it are made in the record that has their names.
		{"function f(a) { eval(\"function g() { return a }\"); return g } f(3)()", "= 3"}, {"var a = 1; function f(a) { (0 || eval)(\"function g() { return a }\"); } f(3); g()", "= 1"}, {"var a = 1; with ({a: 2}) eval(\"function g() { return a }\"); g()", "= 1"}, {"var a = 1; function f() { with ({a: 2}) { eval(\"function g() { return a }\") } return g() } f()", "= 1"}, {"var a = 1; with ({a: 2}) eval(\"g = function () { return a }\"); g()", "= 2"},
		{"var a = 1; function f() { try { throw 2 } catch (a) { eval(\"function g() { return a }\") } return g() } f()", "= 1"}, {"function f() { eval(\"var x = 1; function g() { x = x + 1; return x }\"); g(); return g } f()()", "= 3"}, {"function f() { \"use strict\"; return eval(\"var x = 5; function g() { return x } g\") } f()()", "= 5"},
	}...)
}

// Strict eval code has a record of its own.
func TestNamesOfStrictEvalCode(t *testing.T) {
	wantEvals(t, [][2]string{
		{"\"use strict\"; eval(\"var x = 1; x\")", "= 1"}, {"\"use strict\"; eval(\"var x = 1\"); typeof x", "= 'undefined'"}, {"eval(\"'use strict'; var x = 1\"); typeof x", "= 'undefined'"}, {"eval(\"'use strict'; var x = 1; x\")", "= 1"}, {"eval(\"'use strict'; function g() { return 1 } g()\")", "= 1"}, {"eval(\"'use strict'; function g() {}\"); typeof g", "= 'undefined'"},
		{"\"use strict\"; eval(\"function g() {}\"); typeof g", "= 'undefined'"}, {"function f() { \"use strict\"; eval(\"var x = 1\"); return typeof x } f()", "= 'undefined'"}, {"function f() { eval(\"'use strict'; var x = 1\"); return typeof x } f()", "= 'undefined'"}, {"this.eval(\"'use strict'; var x = 1\"); typeof x", "= 'undefined'"}, {"\"use strict\"; this.eval(\"var x = 1\"); x", "= 1"},
		{"var x = 5; eval(\"'use strict'; var x = 1\"); x", "= 5"}, {"var x = 5; eval(\"'use strict'; var x; x\")", "= undefined"}, {"var x = 5; eval(\"'use strict'; x = 1\"); x", "= 1"}, {"function f(x) { eval(\"'use strict'; var x = 1\"); return x } f(5)", "= 5"}, {"function f(x) { eval(\"'use strict'; x = 1\"); return x } f(5)", "= 1"}, {"function f(x) { eval(\"'use strict'; function x() {}\"); return x } f(5)", "= 5"},
		{"eval(\"'use strict'; var x = 1; (function () { return x })\")()", "= 1"}, {"eval(\"'use strict'; var x = 1; eval('var y = 2; x + y')\")", "= 3"}, {"eval(\"'use strict'; var x = 1; eval('var y = 2'); typeof y\")", "= 'undefined'"}, {"eval(\"'use strict'; var x = 1; (0 || eval)('var y = 2'); y\")", "= 2"}, {"eval(\"'use strict'; this\")", "= #0"}, {"eval(\"'use strict'; for (var k in {a: 1}) ; k\") + typeof k", "= 'aundefined'"},
		{"eval(\"'use strict'; var x = 1; 'x' in this\")", "= false"}, {"eval(\"'use strict'; typeof x; var x = 1\")", "= 'undefined'"}, {"with ({x: 5}) eval(\"'use strict'; var x = 1; x\")", "= 1"}, {"var o = {x: 5}; with (o) eval(\"'use strict'; var x = 1\"); o.x", "= 5"}, {"var o = {x: 5}; with (o) eval(\"'use strict'; x = 1\"); o.x", "= 1"}, {"eval(\"'use strict'; y = 1\")", "! 'ReferenceError'"},
		{"function f(a) { return eval(\"'use strict'; arguments.length + a\") } f(5)", "= 6"}, {"try { throw 3 } catch (e) { eval(\"'use strict'; e\") }", "= 3"},
	}...)
}

// With as few steps as eval code needs, and with fewer.
func TestStepsOfEvalCode(t *testing.T) {
	const text = "eval(\"print(1); print(2)\"); print(3)"
	out := impl.Run(text, allSteps)
	if endOf(out) != "1 2 3 = undefined" || out.Steps != 1+4+1+4+4+4 {
		t.Errorf("got %+v", out)
	}
	for steps, lines := range map[int64]int{5: 0, 9: 0, 10: 1, 13: 1, 14: 2, 17: 2} {
		if got := impl.Run(text, steps); got.Code != impl.ErrSteps || got.Steps != steps || len(got.Log) != lines {
			t.Errorf("with %d steps: got %+v", steps, got)
		}
	}
}
