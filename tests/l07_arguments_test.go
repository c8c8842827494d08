package tests

import (
	"strings"
	"testing"
)

// In loose code arguments and parameters are one; in strict code none is.
func TestArgumentsAndParameters(t *testing.T) {
	for _, c := range []struct{ text, loose, strict string }{
		// Written either way, read the other.
		{"function f(a) { @ arguments[0] = 3; return a } f(1)", "= 3", "= 1"}, {"function f(a) { @ a = 3; return arguments[0] } f(1)", "= 3", "= 1"}, {"function f(a) { @ a = 3; return a } f(1)", "= 3", "= 3"},
		{"function f(a) { @ arguments[0] = 3; return arguments[0] } f(1)", "= 3", "= 3"}, {"function f(a, b) { @ arguments[1] = 3; b = b + 1; return a + arguments[1] } f(10, 2)", "= 14", "= 13"}, {"function f(a, b) { @ a = 5; arguments[1] = 6; return arguments[0] * 10 + b } f(1, 2)", "= 56", "= 12"},
		{"function f(a) { @ arguments[\"0\"] = 3; return a } f(1)", "= 3", "= 1"}, {"function f(a) { @ arguments[\"00\"] = 3; return a } f(1)", "= 1", "= 1"}, {"function f(a) { @ var a = 4; return arguments[0] } f(1)", "= 4", "= 1"},
		{"function f(a) { @ for (a in {k: 1}) return arguments[0] } f(1)", "= 'k'", "= 1"}, {"function f(a) { @ return typeof arguments[0]; function a() {} } f(1)", "= 'function'", "= 'number'"}, {"function f(a) { @ arguments[0] = undefined; return a } f(1)", "= undefined", "= 1"},
		{"function f(a) { @ a = a + 1; arguments[0] = arguments[0] + 1; return a } f(1)", "= 3", "= 2"}, {"function f(a, b, c, d, e, f, g, h, i, j, k) { @ k = 0; return arguments[10] } f(1, 2, 3, 4, 5, 6, 7, 8, 9, 10, 11)", "= 0", "= 11"},
		// By functions within, by eval, and by whoever has the object.
		{"function f(a) { @ (function () { a = 3 })(); return arguments[0] } f(1)", "= 3", "= 1"}, {"function f(a) { @ var b = arguments; (function () { b[0] = 3 })(); return a } f(1)", "= 3", "= 1"}, {"function g(o) { o[0] = 3 } function f(a) { @ g(arguments); return a } f(1)", "= 3", "= 1"},
		{"var o; function f(a) { @ o = arguments; return function () { a = a + 1; return a } } var g = f(1); g(); g(); o[0]", "= 3", "= 1"}, {"var o; function f(a) { @ o = arguments; return function () { return a } } var g = f(1); o[0] = 7; g()", "= 7", "= 1"},
		{"function f(a) { @ eval(\"a = 3\"); return arguments[0] } f(1)", "= 3", "= 1"}, {"function f(a) { @ eval(\"arguments[0] = 3\"); return a } f(1)", "= 3", "= 1"}, {"function f(a) { @ eval(\"var a = 3\"); return arguments[0] } f(1)", "= 3", "= 1"},
		{"function f(a) { @ eval(\"function a() {}\"); return typeof arguments[0] } f(1)", "= 'function'", "= 'number'"}, {"function f(a) { @ return (function (a) { a = 3; return arguments[0] })(a) + a } f(1)", "= 4", "= 2"},
		{"function f(a) { @ try { throw 5 } catch (a) { a = 6 } return arguments[0] } f(1)", "= 1", "= 1"}, {"function f(a) { @ var b = arguments; arguments = 1; a = 3; return b[0] } f(1)", "= 3", ""}, {"function F(a) { @ arguments[0] = 3; this.a = a } (new F(1)).a", "= 3", "= 1"},
		{"var o = {f: function (a) { @ arguments[0] = 3; return a }}; o.f(1)", "= 3", "= 1"}, {"function f(a) { @ with (arguments) { length = 5 } return arguments.length } f(1)", "= 5", ""}, {"function f(length) { @ arguments.length = 5; return length } f(1)", "= 1", "= 1"},
		// Each call has an object of its own.
		{"var o; function f(a) { @ if (o) { a = 9; return o[0] } o = arguments; return f(2) } f(1)", "= 1", "= 1"}, {"var list = {}; function f(a) { @ list[a] = arguments; a = a * 2 } f(1); f(2); list[1][0] + list[2][0]", "= 6", "= 3"},
		// Till the Prop is deleted; one that is put again is another.
		{"function f(a) { @ print(delete arguments[0]); print(arguments[0]); return a } f(1)", "true undefined = 1", "true undefined = 1"}, {"function f(a) { @ delete arguments[0]; arguments[0] = 3; return a } f(1)", "= 1", "= 1"},
		{"function f(a) { @ delete arguments[0]; arguments[0] = 3; a = 4; return arguments[0] } f(1)", "= 3", "= 3"}, {"function f(a) { @ delete arguments[0]; a = 3; return arguments[0] } f(1)", "= undefined", "= undefined"}, {"function f(a) { @ a = 3; delete arguments[0]; arguments[0] = 4; return a } f(1)", "= 3", "= 3"},
		{"function f(a, b) { @ delete arguments[0]; arguments[1] = 3; return b } f(1, 2)", "= 3", "= 2"}, {"function f(a) { @ delete arguments[1]; arguments[0] = 3; return a } f(1)", "= 3", "= 1"}, {"function f(a) { @ delete arguments[0]; return \"0\" in arguments } f(1)", "= false", "= false"},
		{"function f(a) { @ delete arguments[0]; delete arguments[0]; arguments[0] = 2; delete arguments[0]; return a } f(1)", "= 1", "= 1"}, {"function f(a) { @ for (k in arguments) { delete arguments[k]; arguments[k] = 5 } return a } var k; f(1)", "= 1", "= 1"},
		{"function f(a) { @ for (k in arguments) arguments[k] = 5; return a } var k; f(1)", "= 5", "= 1"},
		// Beyond the arguments that were given there is none, beyond the parameters neither.
		{"function f(a) { @ arguments[0] = 3; return a } f()", "= undefined", "= undefined"}, {"function f(a) { @ a = 3; return arguments[0] } f()", "= undefined", "= undefined"}, {"function f(a, b) { @ b = 3; arguments[1] = 4; return b } f(1)", "= 3", "= 3"},
		{"function f(a, b) { @ b = 3; return \"1\" in arguments } f(1)", "= false", "= false"}, {"function f(a) { @ arguments[1] = 3; return a + arguments[1] } f(1, 2)", "= 4", "= 4"}, {"function f(a, b) { @ arguments[0] = 3; b = 5; return a } f(1)", "= 3", "= 1"}, {"function f(a) { @ a = 3; return arguments.length } f()", "= 0", "= 0"},
		// Of like parameters the last.
		{"function f(a, a) { arguments[0] = 3; return a } f(1, 2)", "= 2", ""}, {"function f(a, a) { arguments[1] = 3; return a } f(1, 2)", "= 3", ""}, {"function f(a, a) { a = 3; return arguments[0] * 10 + arguments[1] } f(1, 2)", "= 13", ""},
		{"function f(a, a) { a = 3; return arguments[0] } f(1)", "= 1", ""}, {"function f(a, a) { arguments[0] = 3; return a } f(1)", "= 1", ""}, {"function f(a, b, a) { a = 3; b = 4; return arguments[0] * 100 + arguments[1] * 10 + arguments[2] } f(1, 1, 1)", "= 143", ""},
		{"function f(a, b, a) { a = 3; return arguments[0] + arguments[1] } f(1, 1)", "= 2", ""},
		// Where arguments is a parameter there is no such object.
		{"function f(arguments) { arguments[0] = 3; return arguments } f(1)", "= 1", ""}, {"function f(a, arguments) { arguments[0] = 3; return a } f(1, {})", "= 1", ""}, {"function f(a) { return (function (arguments) { arguments[0] = 3; return a })(arguments) } f(1)", "= 3", ""},
	} {
		wantEnd(t, strings.ReplaceAll(c.text, "@", ""), c.loose)
		if c.strict != "" {
			wantEnd(t, strings.ReplaceAll(c.text, "@", "\"use strict\";"), c.strict)
		}
	}
	wantEnds(t, [][2]string{
		{"function f(a) { arguments[0] = 3; return a } \"use strict\"; f(1)", "= 3"}, {"\"use strict\"; function f(a) { arguments[0] = 3; return a } f(1)", "= 1"}, {"function f(a) { \"use strict\"; return function (b) { arguments[0] = 3; return b } } f(0)(1)", "= 1"},
		{"function f(a) { return function (b) { \"use strict\"; arguments[0] = 3; return b } } f(0)(1)", "= 1"}, {"function f(a) { (function () { \"use strict\"; a = 5 })(); return arguments[0] } f(1)", "= 5"},
		{"function f(a) { eval(\"'\"); } try { f(1) } catch (e) { e }", "= 'SyntaxError'"}, {"eval(\"\\\"use strict\\\"; (function (a) { arguments[0] = 3; return a })(1)\")", "= 1"}, {"function f(a) { eval(\"\\\"use strict\\\"; a = 3\"); return arguments[0] } f(1)", "= 3"},
	}...)
}
