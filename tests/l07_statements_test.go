package tests

import (
	"testing"
)

func TestStatementsThatChoose(t *testing.T) {
	wantEnds(t, [][2]string{
		{"if (1) print(1)", "1 = undefined"}, {"if (0) print(1)", "= undefined"}, {"if (\"\") print(1); else print(2)", "2 = undefined"}, {"if ({}) print(1); else print(2)", "1 = undefined"}, {"if (none) print(1); else print(2)", "! 'ReferenceError'"}, {"if (1) { print(1); print(2) } print(3)", "1 2 3 = undefined"},
		{"if (0) ; else if (0) print(1); else print(2)", "2 = undefined"}, {"if (1) if (0) print(1); else print(2)", "2 = undefined"}, {"{ print(1); { print(2) } } print(3)", "1 2 3 = undefined"}, {";;print(1);;", "1 = undefined"},
		{"var a = 1, b = a + 1, c; print(b); c", "2 = undefined"}, {"var a = print(1), b = print(2)", "1 2 = undefined"}, {"var a = none, b = print(2)", "! 'ReferenceError'"}, {"var a = 1; var a; a", "= 1"}, {"var a = 1, a = 2; a", "= 2"}, {"var a = 1; if (true) { var a = 2 } a", "= 2"}, {"var f = function () { return f }; f() === f", "= true"},
		{"function f() { print(1) } 2", "= 2"}, {"function f() { throw 1 } 2", "= 2"}, {"throw print(1)", "1 ! undefined"}, {"throw none", "! 'ReferenceError'"}, {"throw {a: 1}", "! #3"}, {"print(1); throw 2; print(3)", "1 ! 2"},
	}...)
}

func TestWhile(t *testing.T) {
	const up = "var i = 0; "
	wantEnds(t, [][2]string{
		{up + "while (i < 3) { print(i); i = i + 1 }", "0 1 2 = 3"}, {"while (0) print(1)", "= undefined"}, {"while (none) print(1)", "! 'ReferenceError'"}, {up + "while (true) { i = i + 1; if (i > 4) break } i", "= 5"}, {up + "while (i < 5) { i = i + 1; if (i % 2) continue; print(i) }", "2 4 = 5"},
		{up + "while (i < 2) { i = i + 1; var j = 0; while (true) { j = j + 1; if (j > 2) break; print(i * 10 + j) } }", "11 12 21 22 = 3"}, {up + "while (i < 2) { i = i + 1; while (true) { break; print(9) } print(i) }", "1 2 = undefined"}, {up + "while (i < 3) { i = i + 1; throw i }", "! 1"}, {"while (true) { throw 1 }", "! 1"},
		{"function f() { var i = 0; while (true) { i = i + 1; if (i === 4) return i } } f()", "= 4"}, {"function f() { while (true) { while (true) { return 1 } } } f()", "= 1"}, {up + "while (i < 3) { { { i = i + 1; continue } } print(9) } i", "= 3"}, {"while (true) { { { break } } }", "= undefined"},
		{up + "while (i < 3) { i = i + 1; with ({}) continue; print(9) } i", "= 3"}, {"while (true) with ({}) { break }", "= undefined"}, {up + "while (i < 3) { i = i + 1; if (true) continue; print(9) } i", "= 3"}, {"while (\"a\") { break }", "= undefined"}, {up + "while (i = i + 1) { if (i > 5) break } i", "= 6"},
		{up + "while (i < 3) { i = i + 1; (function () { var j = 0; while (j < 9) { j = j + 1; break } })(); print(i) }", "1 2 3 = undefined"}, {up + "while (i < 3) { i = i + 1; for (k in {a: 1, b: 2}) { if (k === \"b\") break; print(k + i) } }", "a1 a2 a3 = undefined"},
	}...)
}

func TestFor(t *testing.T) {
	wantEnds(t, [][2]string{
		{"for (var k in {a: 1, b: 2}) print(k); k", "a b = 'b'"}, {"for (k in {a: 1}) ; typeof k", "= 'string'"}, {"for (k in {}) print(k); typeof k", "= 'undefined'"}, {"for (var k in {}) ; k", "= undefined"}, {"for (k in none) ;", "! 'ReferenceError'"}, {"for (k in {\"1\": 0, \"0\": 0, b: 0, a: 0}) print(k)", "1 0 b a = undefined"},
		// Of what is no object nothing runs.
		{"for (k in 5) print(k)", "= undefined"}, {"for (k in \"abc\") print(k)", "= undefined"}, {"for (k in null) print(k)", "= undefined"}, {"for (k in undefined) print(k)", "= undefined"}, {"for (k in true) print(k); typeof k", "= 'undefined'"}, {"for (k in -\"a\") print(k)", "= undefined"},
		// Keys that are deleted, put, hidden, or of a Proto.
		{"var o = {a: 1, b: 2, c: 3}; for (k in o) { print(k); delete o.b }", "a c = true"}, {"var o = {a: 1, b: 2}; for (k in o) { print(k); o.c = 3 }", "a b = 3"}, {"var o = {a: 1, b: 2}; for (k in o) { print(k); delete o[k] } for (k in o) print(k)", "a b = true"}, {"var o = {a: 1, b: 2, c: 3}; for (k in o) { print(k); delete o.b; o.b = 4 }", "a b c = 4"},
		{"var o = {a: 1, b: 2, c: 3}; for (k in o) { print(k); delete o.a; o.a = 4 } for (k in o) print(k)", "a b c b c a = undefined"}, {"var o = {a: 1, b: 2}; for (k in o) { print(k); delete o.b; o.c = 1 }", "a = 1"}, {"function F() { this.a = 1 } F.prototype.b = 2; for (k in new F()) print(k)", "a = undefined"},
		{"function F() { this.b = 1 } F.prototype.b = 2; var o = new F(); o.c = 1; for (k in o) { print(k); delete o.c }", "b = true"}, {"function F() { this.a = 1; this.b = 1 } F.prototype.b = 2; var o = new F(); for (k in o) { print(k); delete o.b }", "a = true"}, {"for (k in function () {}) print(k)", "= undefined"}, {"function f() { for (k in arguments) print(k + arguments[k]) } f(5, 6)", "05 16 = undefined"},
		{"function f() {} for (k in f.prototype) { print(k) } delete f.prototype.constructor; f.prototype.constructor = 1; for (k in f.prototype) { print(k) }", "constructor = undefined"}, {"delete eval; for (k in this) { print(k) } var a; eval = 1; for (k in this) print(k)", "a a k eval = undefined"},
		{"var k, a = 1; for (k in this) { print(k); if (k === \"k\") { delete print2; eval(\"z = 1\") } }", "k a = undefined"}, {"var a = 1; for (var k in this) { delete eval; this.eval = 5; print(k) }", "a k = undefined"}, {"var o = {a: 1, b: 2}, p = o; for (k in o) { o = {}; print(k) }", "a b = undefined"}, {"var o = {a: {x: 1}, b: 2}; for (k in o) for (j in o[k]) print(k + j)", "ax = undefined"},
		{"var o = {a: 1, b: 2, c: 3}; for (k in o) { for (j in o) { if (j === \"a\") delete o.a; print(k + j) } }", "aa ab ac bb bc cb cc = undefined"}, {"var o = {a: 1, b: 2, c: 3}; for (k in o) { for (j in o) { delete o[j] } print(k) }", "a = undefined"},
		// The name is written each time, as any name.
		{"var o = {}; with ({k: 0}) { for (k in {a: 1}) print(k) } typeof k", "a = 'undefined'"}, {"try { throw 1 } catch (k) { for (k in {a: 1}) ; k }", "= 'a'"}, {"try { throw 1 } catch (k) { for (var k in {a: 1}) ; print(k) } k", "a = undefined"}, {"function f(k) { for (k in {a: 1}) ; return arguments[0] } f(1)", "= 'a'"}, {"for (k in {a: 1, b: 2}) { print(k); k = 5 } k", "a b = 5"},
		{"for (var k in {a: 1}) ; delete k", "= false"}, {"for (k in {a: 1}) ; delete k", "= true"}, {"for (eval in {a: 1}) ; eval", "= 'a'"}, {"for (k in {a: 1, b: 2}) { delete k; print(typeof k) } k", "undefined undefined ! 'ReferenceError'"}, {"\"use strict\"; for (var k in {a: 1}) ; k", "= 'a'"}, {"\"use strict\"; for (k in {a: 1}) ;", "! 'ReferenceError'"},
		// What leaves it.
		{"for (k in {a: 1, b: 2, c: 3}) { if (k === \"b\") break; print(k) } k", "a = 'b'"}, {"for (k in {a: 1, b: 2, c: 3}) { if (k === \"b\") continue; print(k) }", "a c = undefined"}, {"function f() { for (k in {a: 1, b: 2}) if (k === \"b\") return k + \"!\" } f()", "= 'b!'"}, {"for (k in {a: 1, b: 2}) throw k", "! 'a'"}, {"for (k in {a: 1}) for (j in {x: 1, y: 2}) break; j", "= 'x'"},
		{"for (k in {a: 1, b: 2}) { for (j in {x: 1, y: 2}) { if (j === \"y\") break; print(k + j) } }", "ax bx = undefined"}, {"for (k in {a: 1, b: 2}) with ({}) { if (k === \"a\") continue; print(k) }", "b = undefined"}, {"for (k in {a: 1, b: 2}) try { continue } finally { print(k) }", "a b = undefined"}, {"for (k in {a: 1, b: 2}) try { break } finally { print(k) }", "a = undefined"},
	}...)
}

func TestWith(t *testing.T) {
	wantEnds(t, [][2]string{
		{"with (1) print(1)", "! 'TypeError'"}, {"with (\"abc\") length", "! 'TypeError'"}, {"with (null) 1", "! 'TypeError'"}, {"with (undefined) 1", "! 'TypeError'"}, {"with (true) 1", "! 'TypeError'"}, {"with (none) print(1)", "! 'ReferenceError'"}, {"with ({a: 1}) { a } ", "= 1"}, {"var a = 1; with ({a: 2}) with ({b: a}) b", "= 2"},
		{"with (function () {}) typeof prototype", "= 'object'"}, {"var o = {}; with (o) { var p = 1; q = 2 } for (k in o) print(k); p + q", "= 3"}, {"var a = 1; with ({a: {a: 2}}) with (a) a", "= 2"}, {"var o = {a: 1}; with (o) { o = {a: 5}; a }", "= 1"}, {"with (this) { var a = 1 } a", "= 1"}, {"with ({this1: 1}) this", "= #0"},
		{"function f() { with ({a: 1}) { return function () { return a } } } f()()", "= 1"}, {"try { with ({a: 1}) throw a } catch (e) { e + typeof a }", "= '1undefined'"}, {"with ({print: function (a) { return 5 }}) print(1)", "= 5"}, {"with ({undefined1: 1}) undefined", "= undefined"},
	}...)
}

func TestTry(t *testing.T) {
	wantEnds(t, [][2]string{
		{"try { print(1) } catch (e) { print(2) } print(3)", "1 3 = undefined"}, {"try { print(1); throw 5; print(2) } catch (e) { print(e) } print(3)", "1 5 3 = undefined"}, {"try { print(1) } finally { print(2) } print(3)", "1 2 3 = undefined"}, {"try { throw 1 } finally { print(2) }", "2 ! 1"}, {"try { throw 1 } catch (e) { print(e) } finally { print(2) }", "1 2 = undefined"},
		{"try { throw 1 } catch (e) { throw e + 1 } finally { print(3) }", "3 ! 2"}, {"try { print(1) } catch (e) { print(2) } finally { print(3) }", "1 3 = undefined"}, {"try { try { throw 1 } finally { print(2) } } catch (e) { print(e) }", "2 1 = undefined"}, {"try { try { throw 1 } catch (e) { throw 2 } } catch (e) { e }", "= 2"}, {"try { throw {a: 5} } catch (e) { e.a }", "= 5"},
		{"try { throw undefined } catch (e) { typeof e }", "= 'undefined'"}, {"try { null.a } catch (e) { e }", "= 'TypeError'"}, {"try { none } catch (e) { typeof e }", "= 'string'"}, {"try { eval(\"(\") } catch (e) { e }", "= 'SyntaxError'"}, {"try { (function () { throw 7 })() } catch (e) { e }", "= 7"}, {"try { } catch (e) { print(1) } typeof e", "= 'undefined'"}, {"try { throw 1 } catch (e) { var x = e } x", "= 1"},
		// What ends finally counts, if it does not run to its end.
		{"function f() { try { return 1 } finally { print(2) } } f()", "2 = 1"}, {"function f() { try { return 1 } finally { return 2 } } f()", "= 2"}, {"function f() { try { throw 1 } finally { return 2 } } f()", "= 2"}, {"function f() { try { throw 1 } catch (e) { return 3 } finally { return 2 } } f()", "= 2"}, {"function f() { try { throw 1 } catch (e) { return 3 } finally { 4 } } f()", "= 3"},
		{"function f() { try { return 1 } finally { return } } f()", "= undefined"}, {"try { throw 1 } finally { throw 2 }", "! 2"}, {"try { throw 1 } finally { none }", "! 'ReferenceError'"}, {"function f() { try { return 1 } finally { throw 2 } } f()", "! 2"}, {"try { try { throw 1 } finally { throw 2 } } catch (e) { e }", "= 2"}, {"function f() { try { return 1 } catch (e) { return 2 } } f()", "= 1"},
		{"function f() { try { throw 1 } catch (e) { return e + 1 } return 9 } f()", "= 2"}, {"function f() { try { return print(1) } finally { print(2) } } f()", "1 2 = undefined"}, {"function f() { var a = 1; try { return a } finally { a = 2 } } f()", "= 1"}, {"function f() { try { } finally { return 2 } return 3 } f()", "= 2"}, {"function f() { try { return 1 } finally { if (false) return 2 } } f()", "= 1"},
		// break and continue, into and out of finally.
		{"while (true) { try { break } finally { print(1) } } print(2)", "1 2 = undefined"}, {"var i = 0; while (i < 2) { i = i + 1; try { continue } finally { print(i) } print(9) }", "1 2 = undefined"}, {"while (true) { try { throw 1 } finally { break } } print(2)", "2 = undefined"}, {"var i = 0; while (i < 2) { i = i + 1; try { throw 1 } finally { continue } } i", "= 2"},
		{"function f() { while (true) { try { return 1 } finally { break } } return 2 } f()", "= 2"}, {"function f() { while (true) { try { return 1 } finally { break } } } f()", "= undefined"}, {"function f() { var i = 0; while (i < 2) { i = i + 1; try { return i } finally { continue } } return 5 } f()", "= 5"}, {"function f() { while (true) { try { break } finally { return 4 } } } f()", "= 4"},
		{"var i = 0; while (i < 5) { i = i + 1; try { break } finally { continue } } i", "= 5"}, {"var i = 0; while (i < 5) { i = i + 1; try { continue } finally { break } } i", "= 1"}, {"while (true) { try { throw 1 } catch (e) { break } finally { print(2) } }", "2 = undefined"}, {"for (k in {a: 1, b: 2}) { try { throw k } catch (e) { if (e === \"a\") continue; print(e) } finally { print(\"f\") } }", "f b f = undefined"},
		{"try { while (true) { break } print(1) } finally { print(2) }", "1 2 = undefined"}, {"try { } finally { while (true) { break } print(2) }", "2 = undefined"}, {"function f() { try { return 1 } finally { while (true) { break } } } f()", "= 1"}, {"function f() { try { throw 1 } finally { for (k in {a: 1}) continue } } f()", "! 1"},
		// A return that is overcome within finally is not that of the function.
		{"function f() { try { return 1 } finally { while (true) { try { return 2 } finally { break } } } } f()", "= 1"}, {"function f() { try { throw 1 } finally { try { throw 2 } catch (e) { } } } f()", "! 1"}, {"function f() { try { return 1 } finally { (function () { return 2 })() } } f()", "= 1"}, {"function f() { try { return 1 } finally { try { throw 3 } catch (e) { } } } f()", "= 1"},
		{"function f() { try { try { return 1 } finally { print(2) } } finally { print(3) } } f()", "2 3 = 1"}, {"function f() { try { try { return 1 } finally { throw 2 } } catch (e) { return e + 10 } finally { print(3) } } f()", "3 = 12"}, {"function f() { try { return 1 } finally { try { return 2 } finally { return 3 } } } f()", "= 3"}, {"function f() { try { try { throw 1 } finally { return 2 } } catch (e) { return 3 } } f()", "= 2"},
		{"try { try { throw 1 } catch (e) { none } finally { print(e2) } } catch (e) { e }", "= 'ReferenceError'"}, {"function f() { with ({a: 1}) { try { return a } finally { a = 2; print(a) } } } f()", "2 = 1"}, {"function f() { if (true) { try { return 1 } finally { print(1) } } } f()", "1 = 1"},
		// Only what is in the first block is caught.
		{"try { } catch (e) { print(1) } finally { throw 2 }", "! 2"}, {"try { } catch (e) { } none", "! 'ReferenceError'"}, {"try { throw 1 } catch (e) { none }", "! 'ReferenceError'"}, {"try { try { } finally { throw 1 } } catch (e) { e }", "= 1"}, {"function f() { try { return g() } catch (e) { return e } } function g() { throw 6 } f()", "= 6"},
	}...)
}
