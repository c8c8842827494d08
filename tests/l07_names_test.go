package tests

import (
	"strings"
	"testing"
)

func TestNamesThatNoneHas(t *testing.T) {
	wantEnds(t, [][2]string{
		{"none", "! 'ReferenceError'"}, {"\"use strict\"; none", "! 'ReferenceError'"}, {"function f() { return none } f()", "! 'ReferenceError'"}, {"with ({}) none", "! 'ReferenceError'"}, {"none()", "! 'ReferenceError'"}, {"none(print(1))", "! 'ReferenceError'"},
		{"none.a", "! 'ReferenceError'"}, {"new none(print(1))", "! 'ReferenceError'"}, {"none + print(1)", "! 'ReferenceError'"}, {"!none", "! 'ReferenceError'"}, {"typeof none.a", "! 'ReferenceError'"}, {"delete none.a", "! 'ReferenceError'"}, {"none.a = print(1)", "! 'ReferenceError'"},
		{"typeof none", "= 'undefined'"}, {"\"use strict\"; typeof none", "= 'undefined'"}, {"with ({}) typeof none", "= 'undefined'"}, {"typeof (none)", "= 'undefined'"}, {"typeof !none", "! 'ReferenceError'"}, {"function f() { return typeof none } f()", "= 'undefined'"},
		{"delete none", "= true"}, {"function f() { return delete none } f()", "= true"}, {"with ({}) delete none", "= true"}, {"delete (none)", "= true"}, {"eval(\"delete none\")", "= true"},
		// Loose code writes it into the object 0; strict code throws, behind the value.
		{"a = 1; this.a", "= 1"}, {"function f() { a = 1 } f(); this.a", "= 1"}, {"function f() { a = 1 } f(); delete a", "= true"}, {"with ({}) a = 1; a", "= 1"}, {"try { throw 1 } catch (e) { a = e } this.a", "= 1"}, {"a = 1; for (k in this) print(k); k", "a = 'a'"},
		{"eval(\"a = 1\"); this.a", "= 1"}, {"a = b = 3; a + b", "= 6"}, {"var o = {}; with (o) { a = 1 } \"a\" in o", "= false"}, {"for (k in {a: 1}) ; this.k", "= 'a'"}, {"a = print(a = 1); a", "1 = undefined"},
		{"\"use strict\"; a = print(1)", "1 ! 'ReferenceError'"}, {"\"use strict\"; try { a = 1 } catch (e) { print(e) } \"a\" in this", "ReferenceError = false"}, {"function f() { \"use strict\"; a = 1 } f()", "! 'ReferenceError'"}, {"\"use strict\"; for (k in {a: 1}) print(k)", "! 'ReferenceError'"},
		{"\"use strict\"; for (k in {}) print(k); 1", "= 1"}, {"eval(\"\\\"use strict\\\"; a = 1\")", "! 'ReferenceError'"}, {"\"use strict\"; eval(\"a = 1\")", "! 'ReferenceError'"}, {"\"use strict\"; this.eval(\"a = 1\"); a", "= 1"}, {"\"use strict\"; this.a = 1; a = 2; this.a", "= 2"}, {"\"use strict\"; var a; a = 2; this.a", "= 2"},
	}...)
}

// A name is looked for ahead of the value that is written, and written where it was found.
func TestNamesAreLookedForAheadOfTheirValue(t *testing.T) {
	wantEnds(t, [][2]string{
		{"x = eval(\"var x = 1; 2\"); x", "= 2"}, {"function f() { x = eval(\"var x = 1; 2\"); return x } f() * 10 + x", "= 12"}, {"function f() { var y = x = eval(\"var x = 1; 2\"); return x } f() * 10 + x", "= 12"},
		{"var o = {x: 1}; with (o) { x = (delete o.x) } print(o.x); typeof x", "true = 'undefined'"}, {"var o = {x: 1, y: 2}; with (o) { x = (delete o.x) } for (k in o) print(k); k", "y x = 'x'"}, {"var x = 0, o = {}; with (o) { x = (o.x = 5) + 1 } x * 10 + o.x", "= 65"},
		{"var x = 0, o = {x: 1}; with (o) { x = (delete o.x) ? 7 : 8 } print(o.x); x", "7 = 0"}, {"\"use strict\"; x = (this.x = 1)", "! 'ReferenceError'"}, {"\"use strict\"; this.x = 1; x = (delete this.x) ? 5 : 6; this.x", "= 5"}, {"x = 1; x = (delete x) ? 5 : 6; x", "= 5"},
		{"function f() { eval(\"var x = 1\"); x = (delete x) ? 5 : 6; return x } f(); typeof x", "= 'undefined'"}, {"function f() { eval(\"var x = 1\"); x = (delete x) ? 5 : 6; return x } f()", "= 5"}, {"var x = 9; function f() { eval(\"var x = 1\"); x = (delete x) ? 5 : 6; print(x); delete x; return x } f()", "5 = 9"},
		{"var a = 0; function f(x) { var a = eval(\"var b = 3; b + 1\"); return a * 10 + b } f()", "= 43"}, {"var k = 0, o = {}; with (o) for (k in {a: 1, b: 2}) o.k = 5; print(k); o.k", "a = 5"}, {"var o = {k: 0}; with (o) for (k in {a: 1, b: 2}) delete o.k; print(o.k); k", "undefined = 'b'"},
		{"var x = 0, o = {x: 1}; with (o) { var x = (delete o.x) ? 7 : 8 } print(x); o.x", "0 = 7"}, {"function f(x) { x = (arguments[0] = 5) + 1; return arguments[0] } f(1)", "= 6"}, {"var x = 1; x = none; ", "! 'ReferenceError'"}, {"var x = 1; try { x = none } catch (e) { } x", "= 1"},
	}...)
}

func TestNamesOfRecords(t *testing.T) {
	wantEnds(t, [][2]string{
		// A record of names: read, written, asked for its type, and not deleted.
		{"function f(a) { return a } f(1)", "= 1"}, {"var a = 5; function f(a) { a = 2; return a } f(1) * 10 + a", "= 25"}, {"function f(a) { return typeof a } f(1)", "= 'number'"}, {"function f(a) { return delete a } f(1)", "= false"}, {"function f(a) { delete a; return a } f(1)", "= 1"},
		{"function f() { var a; return delete a } f()", "= false"}, {"function f() { return delete g; function g() {} } f()", "= false"}, {"function f() { for (var k in 1) ; return delete k } f()", "= false"}, {"try { throw 1 } catch (e) { delete e }", "= false"}, {"try { throw 1 } catch (e) { delete e; e }", "= 1"},
		{"var e = 5; try { throw 1 } catch (e) { e = 2; print(e) } e", "2 = 5"}, {"try { throw 1 } catch (e) { var e = 2 } e", "= undefined"}, {"try { throw 1 } catch (e) { (function () { e = e + 1 })(); e }", "= 2"}, {"try { throw 1 } catch (e) { } typeof e", "= 'undefined'"}, {"var a = 1; try { throw 2 } catch (e) { a = a + e } a", "= 3"},
		{"try { throw 1 } catch (e) { try { throw 2 } catch (e) { print(e) } print(e) }", "2 1 = undefined"}, {"try { throw 1 } catch (e) { try { throw 2 } catch (d) { e * 10 + d } }", "= 12"}, {"try { throw function () { return typeof e } } catch (e) { e() }", "= 'undefined'"},
		// A record of an object: what it has, of its own or of its Protos.
		{"with ({a: 1}) a", "= 1"}, {"var o = {a: 1}; with (o) { a = 2 } o.a", "= 2"}, {"var a = 5, o = {a: 1}; with (o) { a = 2 } a", "= 5"}, {"var o = {a: 1}; with (o) typeof a", "= 'number'"}, {"var o = {a: 1}; with (o) delete a", "= true"}, {"var o = {a: 1}; with (o) delete a; o.a", "= undefined"},
		{"var a = 5; with ({a: 1}) { delete a; a }", "= 5"}, {"var a = 5; with ({a: undefined}) a", "= undefined"}, {"var o = {}; with (o) { o.a = 1; a }", "= 1"}, {"with ({a: 1}) with ({b: 2}) a + b", "= 3"}, {"with ({a: 1}) with ({a: 2}) a", "= 2"}, {"var a = 1; with ({a: 2}) (function () { return a })()", "= 2"},
		{"var a = 1, f; with ({a: 2}) { f = function () { return a } } f()", "= 2"}, {"var a = 1, f; with ({a: 2}) { f = function (a) { return a } } f(3)", "= 3"}, {"with ({f: function () { return 5 }}) f()", "= 5"}, {"var a = 1; with ({b: a}) { a = b + 1 } a", "= 2"},
		{"function F() {} F.prototype.a = 1; with (new F()) a", "= 1"}, {"function F() {} F.prototype.a = 1; var o = new F(); with (o) { a = 2 } print(o.a); F.prototype.a", "2 = 1"}, {"function F() {} F.prototype.a = 1; var o = new F(); with (o) delete a", "= true"}, {"function F() {} F.prototype.a = 1; var o = new F(); with (o) { delete a; a }", "= 1"},
		{"function F() {} F.prototype.a = 1; var o = new F(); with (o) { a = 2; delete a; a }", "= 1"}, {"function f() {} with (f) delete prototype", "= false"}, {"function f() {} with (f) { prototype = 5 } f.prototype", "= 5"}, {"with (this) { z = 1 } z", "= 1"}, {"var o = {a: 1}; with (o) for (a in {k: 1}) ; o.a", "= 'k'"},
		{"var o = {a: 1}; with (o) var a = 2; print(o.a); a", "2 = undefined"}, {"function f() { var o = {a: 1}; with (o) { var a = 2 } return o.a + \"\" + a } f()", "= '2undefined'"}, {"with ({}) { var a = 1 } this.a", "= 1"}, {"with (function () {}) typeof constructor", "= 'undefined'"}, {"function f() { with (arguments) return length } f(1, 2)", "= 2"},
		// The object 0: the outermost one.
		{"var a = 1; function f() { return a } f()", "= 1"}, {"function f() { return a } this.a = 4; f()", "= 4"}, {"var a = 1; function f() { a = 2 } f(); this.a", "= 2"}, {"this.a = 1; delete a", "= true"}, {"var a; delete a", "= false"}, {"function f() { return delete a } a = 1; f(); typeof a", "= 'undefined'"},
		{"function f() { return delete a } var a = 1; f()", "= false"}, {"typeof this.a", "= 'undefined'"}, {"var a = {}; typeof a", "= 'object'"}, {"typeof eval", "= 'function'"}, {"delete print", "= true"}, {"delete print; print(1)", "! 'ReferenceError'"}, {"delete print; var print = 1; delete print", "= true"},
		{"eval(\"delete print; var print = 1; delete print\")", "= true"}, {"function print() {} delete print", "= true"},
	}...)
}

// The record in which a function is made is kept; the one from which it is called is nothing to it.
func TestRecordsAreKept(t *testing.T) {
	wantEnds(t, [][2]string{
		{"var a = 1; function f() { return a } function g() { var a = 2; return f() } g()", "= 1"}, {"function f(a) { return function (b) { return function (c) { return a * 100 + b * 10 + c } } } f(1)(2)(3)", "= 123"}, {"function c() { var n = 0; return function () { n = n + 1; return n } } var d = c(), e = c(); d(); d(); d() * 10 + e()", "= 31"},
		{"var a = 1; function f() { return a } with ({a: 2}) f()", "= 1"}, {"var a = 1; function f() { return a } try { throw 2 } catch (a) { f() }", "= 1"}, {"var f; try { throw 2 } catch (a) { f = function () { a = a + 1; return a } } f(); f()", "= 4"}, {"var f, o = {a: 1}; with (o) f = function () { return a }; o.a = 5; f()", "= 5"},
		{"var f, o = {a: 1}; with (o) f = function () { return a }; delete o.a; print(f()); var a = 3; f()", "undefined = 3"}, {"var o = {n: 0, up: function () { this.n = this.n + 1; return this }}; o.up().up().n", "= 2"}, {"function f() { return g(); function g() { return arguments.length } } f(1, 2, 3)", "= 0"},
		{"function f(a) { if (a) return f(0); a = 5; return a } f(1)", "= 5"}, {"function f(a) { if (a) { f(0); return a } a = 5 } f(1)", "= 1"}, {"function f() { with ({a: 1}) { return 2 } } var a = 3; f(); a", "= 3"}, {"var a = 3; try { with ({a: 1}) { throw 2 } } catch (e) { a }", "= 3"}, {"var a = 3; while (true) with ({a: 1}) break; a", "= 3"},
		{"var e = 3; while (true) try { throw 1 } catch (e) { break } e", "= 3"}, {"var e = 3; try { try { throw 1 } catch (e) { throw 2 } } catch (d) { e }", "= 3"}, {"var a = 3; for (k in {x: 1, y: 2}) with ({a: 1}) continue; a", "= 3"}, {"var e = 3; try { throw 1 } catch (e) { } finally { e }", "= 3"}, {"var e = 3; try { throw 1 } catch (e) { throw e } finally { print(e) }", "3 ! 1"},
	}...)
}

// What a name gets, under functions and with an object put between.
func TestANameGetsWhatItsAddressTells(t *testing.T) {
	for functions := range 12 {
		for _, c := range []struct{ text, mark, want string }{
			{"x", "@", "1"}, {"y", "@", "2"}, {"v", "@", "3"}, {"arguments.length", "@", "0"},
			{"x", "with ({x: 9}) { @ }", "9"}, {"y", "with ({x: 9}) { @ }", "2"}, {"x = 5", "with ({x: 9}) { @ }", "5"}, {"x", "with ({}) { @ }", "1"}, {"x", "try { throw 8 } catch (x) { @ }", "8"}, {"x", "try { throw 8 } catch (e) { @ }", "1"},
			{"x", "eval(\"var x = 7\"); @", "7"}, {"x", "eval(\"\"); @", "1"}, {"x", "with (this) { @ }", "1"}, {"typeof x", "with ({x: \"\"}) { @ }", "string"}, {"e", "try { throw 8 } catch (e) { @ }", "8"},
		} {
			inmost := "return " + c.text
			body := wrapped(functions, functions-1, c.mark, inmost)
			if functions == 0 {
				body = strings.ReplaceAll(c.mark, "@", inmost)
			}
			if functions == 0 && c.text == "arguments.length" {
				c.want = "2"
			}
			if functions == 0 && strings.HasPrefix(c.mark, "eval(\"v") {
				c.want = "7"
			}
			text := "function f(x, y) { var v = 3; " + body + " } print(f(1, 2)" + strings.Repeat("()", functions) + ")"
			wantEnd(t, text, c.want+" = undefined")
		}
	}
	for marked := range 8 {
		for _, c := range [][2]string{{"with ({x: 9}) { @ }", "9"}, {"with ({}) { @ }", "1"}, {"with ({q: 9}) { @ }", "1"}, {"eval(\"var x = 7\"); @", "7"}, {"var x = 6; @", "6"}, {"try { throw 8 } catch (x) { @ }", "8"}} {
			text := "function f(x) {" + wrapped(9, marked, c[0], "return x") + "} f(1)" + strings.Repeat("()", 9)
			wantEnd(t, text, "= "+c[1])
		}
	}
}
