package tests

import (
	"slices"
	"strings"
	"testing"
)

// In loose code arguments and parameters are one; in strict code none is.
func TestArgumentsAndParameters(t *testing.T) {
	for _, c := range []struct{ text, loose, strict string }{
		// Written either way, read the other.
		{"function f(a) { @ arguments[0] = 3; return a } f(1)", "= 3", "= 1"}, {"function f(a) { @ a = 3; return arguments[0] } f(1)", "= 3", "= 1"}, {"function f(a) { @ a = 3; return a } f(1)", "= 3", "= 3"},
		{"function f(a) { @ arguments[0] = 3; return arguments[0] } f(1)", "= 3", "= 3"}, {"function f(a, b) { @ arguments[1] = 3; b = b + 1; return a + arguments[1] } f(10, 2)", "= 14", "= 13"}, {"function f(a, b) { @ a = 5; arguments[1] = 6; return arguments[0] * 10 + b } f(1, 2)", "= 56", "= 12"},
		{"function f(a) { @ arguments[\"0\"] = 3; return a } f(1)", "= 3", "= 1"}, {"function f(a) { @ arguments[\"00\"] = 3; return a } f(1)", "= 1", "= 1"}, {"function f(a) { @ var a = 4; return arguments[0] } f(1)", "= 4", "= 1"},
		{"function f(a) { @ for (a in {k: 1}) return arguments[0] } f(1)", "= 'k'", "= 1"}, {"function f(a) { @ return typeof arguments[0]; function a() {} } f(1)", "= 'function'", "= 'number'"}, {"function f(a) { @ arguments[0] = undefined; return a } f(1)", "= undefined", "= 1"},
		{"function f(a) { @ a = a + 1; arguments[0] = arguments[0] + 1; return a } f(1)", "= 3", "= 2"}, {"function f(a, b, c, d, e, f, g, h, i, j, k) { @ k = 0; return arguments[10] } f(1, 2, 3, 4, 5, 6, 7, 8, 9, 10, 11)", "= 0", "= 11"},
		// By functions within, by eval, and by whoever has the object.
		{"function f(a) { @ (function () { a = 3 })(); return arguments[0] } f(1)", "= 3", "= 1"}, {"function f(a) { @ var b = arguments; (function () { b[0] = 3 })(); return a } f(1)", "= 3", "= 1"}, {"function g(o) { o[0] = 3 } function f(a) { @ g(arguments); return a } f(1)", "= 3", "= 1"},
		{"var o; function f(a) { @ o = arguments; return function () { a = a + 1; return a } } var g = f(1); g(); g(); o[0]", "= 3", "= 1"}, {"var o; function f(a) { @ o = arguments; return function () { return a } } var g = f(1); o[0] = 7; g()", "= 7", "= 1"},
		{"function f(a) { @ eval(\"a = 3\"); return arguments[0] } f(1)", "= 3", "= 1"}, {"function f(a) { @ eval(\"arguments[0] = 3\"); return a } f(1)", "= 3", "= 1"}, {"function f(a) { @ eval(\"var a = 3\"); return arguments[0] } f(1)", "= 3", "= 1"},
		{"function f(a) { @ eval(\"function a() {}\"); return typeof arguments[0] } f(1)", "= 'function'", "= 'number'"}, {"function f(a) { @ return (function (a) { a = 3; return arguments[0] })(a) + a } f(1)", "= 4", "= 2"},
		{"function f(a) { @ try { throw 5 } catch (a) { a = 6 } return arguments[0] } f(1)", "= 1", "= 1"}, {"function f(a) { @ var b = arguments; arguments = 1; a = 3; return b[0] } f(1)", "= 3", ""}, {"function F(a) { @ arguments[0] = 3; this.a = a } (new F(1)).a", "= 3", "= 1"},
		{"var o = {f: function (a) { @ arguments[0] = 3; return a }}; o.f(1)", "= 3", "= 1"}, {"function f(a) { @ with (arguments) { length = 5 } return arguments.length } f(1)", "= 5", ""}, {"function f(length) { @ arguments.length = 5; return length } f(1)", "= 1", "= 1"},
		// Each call has an object of its own.
		{"var o; function f(a) { @ if (o) { a = 9; return o[0] } o = arguments; return f(2) } f(1)", "= 1", "= 1"}, {"var list = {}; function f(a) { @ list[a] = arguments; a = a * 2 } f(1); f(2); list[1][0] + list[2][0]", "= 6", "= 3"},
		// Till the Prop is deleted; one that is put again is another.
		{"function f(a) { @ print(delete arguments[0]); print(arguments[0]); return a } f(1)", "true undefined = 1", "true undefined = 1"}, {"function f(a) { @ delete arguments[0]; arguments[0] = 3; return a } f(1)", "= 1", "= 1"},
		{"function f(a) { @ delete arguments[0]; arguments[0] = 3; a = 4; return arguments[0] } f(1)", "= 3", "= 3"}, {"function f(a) { @ delete arguments[0]; a = 3; return arguments[0] } f(1)", "= undefined", "= undefined"}, {"function f(a) { @ a = 3; delete arguments[0]; arguments[0] = 4; return a } f(1)", "= 3", "= 3"},
		{"function f(a, b) { @ delete arguments[0]; arguments[1] = 3; return b } f(1, 2)", "= 3", "= 2"}, {"function f(a) { @ delete arguments[1]; arguments[0] = 3; return a } f(1)", "= 3", "= 1"}, {"function f(a) { @ delete arguments[0]; return \"0\" in arguments } f(1)", "= false", "= false"},
		{"function f(a) { @ delete arguments[0]; delete arguments[0]; arguments[0] = 2; delete arguments[0]; return a } f(1)", "= 1", "= 1"}, {"function f(a) { @ for (k in arguments) { delete arguments[k]; arguments[k] = 5 } return a } var k; f(1)", "= 1", "= 1"},
		{"function f(a) { @ for (k in arguments) arguments[k] = 5; return a } var k; f(1)", "= 5", "= 1"},
		// Beyond the arguments that were given there is none, beyond the parameters neither.
		{"function f(a) { @ arguments[0] = 3; return a } f()", "= undefined", "= undefined"}, {"function f(a) { @ a = 3; return arguments[0] } f()", "= undefined", "= undefined"}, {"function f(a, b) { @ b = 3; arguments[1] = 4; return b } f(1)", "= 3", "= 3"},
		{"function f(a, b) { @ b = 3; return \"1\" in arguments } f(1)", "= false", "= false"}, {"function f(a) { @ arguments[1] = 3; return a + arguments[1] } f(1, 2)", "= 4", "= 4"}, {"function f(a, b) { @ arguments[0] = 3; b = 5; return a } f(1)", "= 3", "= 1"}, {"function f(a) { @ a = 3; return arguments.length } f()", "= 0", "= 0"},
		// Of like parameters the last.
		{"function f(a, a) { arguments[0] = 3; return a } f(1, 2)", "= 2", ""}, {"function f(a, a) { arguments[1] = 3; return a } f(1, 2)", "= 3", ""}, {"function f(a, a) { a = 3; return arguments[0] * 10 + arguments[1] } f(1, 2)", "= 13", ""},
		{"function f(a, a) { a = 3; return arguments[0] } f(1)", "= 1", ""}, {"function f(a, a) { arguments[0] = 3; return a } f(1)", "= undefined", ""}, {"function f(a, b, a) { a = 3; b = 4; return arguments[0] * 100 + arguments[1] * 10 + arguments[2] } f(1, 1, 1)", "= 143", ""},
		{"function f(a, b, a) { a = 3; return arguments[0] + arguments[1] } f(1, 1)", "= 2", ""},
		// Where arguments is a parameter there is no such object.
		{"function f(arguments) { arguments[0] = 3; return arguments } f(1)", "= 1", ""}, {"function f(a, arguments) { arguments[0] = 3; return a } f(1, {})", "= 1", ""}, {"function f(a) { return (function (arguments) { arguments[0] = 3; return a })(arguments) } f(1)", "= 3", ""},
	} {
		wantEnd(t, strings.ReplaceAll(c.text, "@", ""), c.loose)
		if c.strict != "" {
			wantEnd(t, strings.ReplaceAll(c.text, "@", "\"use strict\";"), c.strict)
		}
	}
	wantEnds(t, [][2]string{
		{"function f(a) { arguments[0] = 3; return a } \"use strict\"; f(1)", "= 3"}, {"\"use strict\"; function f(a) { arguments[0] = 3; return a } f(1)", "= 1"}, {"function f(a) { \"use strict\"; return function (b) { arguments[0] = 3; return b } } f(0)(1)", "= 1"},
		{"function f(a) { return function (b) { \"use strict\"; arguments[0] = 3; return b } } f(0)(1)", "= 1"}, {"function f(a) { (function () { \"use strict\"; a = 5 })(); return arguments[0] } f(1)", "= 5"},
		{"function f(a) { eval(\"'\"); } try { f(1) } catch (e) { e }", "= 'SyntaxError'"}, {"eval(\"\\\"use strict\\\"; (function (a) { arguments[0] = 3; return a })(1)\")", "= 1"}, {"function f(a) { eval(\"\\\"use strict\\\"; a = 3\"); return arguments[0] } f(1)", "= 3"},
	}...)
}

// likeParameters are all lists of up to most names, each of them a or b.
func likeParameters(most int) [][]string {
	lists := [][]string{{}}
	for at := 0; at < len(lists); at++ {
		if len(lists[at]) < most {
			lists = append(lists, append(slices.Clone(lists[at]), "a"), append(slices.Clone(lists[at]), "b"))
		}
	}
	return lists
}

// lastOf is the number of the last name like that; none: -1.
func lastOf(names []string, name string) int {
	last := -1
	for i, n := range names {
		if n == name {
			last = i
		}
	}
	return last
}

// valueAt is the argument of that number, where 1, 2, .. are given.
func valueAt(at int, given int) string {
	if at < given {
		return decimal(at + 1)
	}
	return "undefined"
}

// wantWrites writes a parameter by its name and by its number, and asks what is written by it.
func wantWrites(t *testing.T, names []string, name string, given int) {
	t.Helper()
	last := lastOf(names, name)
	one := last < given
	call := decimalsTo(given)
	for at := range 5 {
		byName, byNumber := valueAt(at, given), valueAt(last, given)
		if one && at == last {
			byName, byNumber = "77", "77"
		}
		head, index := "(function ("+strings.Join(names, ", ")+") { ", "arguments["+decimal(at)+"]"
		wantEnd(t, head+name+" = 77; return "+index+" })("+call+")", "= "+byName)
		wantEnd(t, head+index+" = 77; return "+name+" })("+call+")", "= "+byNumber)
	}
}

// decimalsTo are the numbers from 1 to n, with commas between.
func decimalsTo(n int) string {
	list := make([]string, n)
	for i := range list {
		list[i] = decimal(i + 1)
	}
	return strings.Join(list, ", ")
}

// Of like parameters the last counts, however far the arguments go.
func TestLikeParameters(t *testing.T) {
	for _, names := range likeParameters(4) {
		for given := range 6 {
			for _, name := range []string{"a", "b"} {
				last := lastOf(names, name)
				if last < 0 {
					continue
				}
				list, call := strings.Join(names, ", "), decimalsTo(given)
				wantEnd(t, "function f("+list+") { return "+name+" } f("+call+")", "= "+valueAt(last, given))
				wantEnd(t, "function F("+list+") { this.c = "+name+" } (new F("+call+")).c", "= "+valueAt(last, given))
				wantEnd(t, "var o = {f: function ("+list+") { return "+name+" }}; o.f("+call+")", "= "+valueAt(last, given))
				wantWrites(t, names, name, given)
			}
		}
	}
	wantEnds(t, [][2]string{
		{"function f(arguments, arguments) { return arguments } f(1)", "= undefined"}, {"function f(arguments, arguments) { return arguments } f(1, 2)", "= 2"}, {"function f(a, arguments, a) { return a } f(1, 2)", "= undefined"},
		{"function f(a, a) { return typeof a; function a() {} } f(1)", "= 'function'"}, {"function f(a, a) { return a; var a = 5 } f(1)", "= undefined"}, {"function f(a, a) { return eval(\"a\") } f(1)", "= undefined"}, {"var a = 9; function f(a, a) { return a } f(1)", "= undefined"},
		{"eval(\"function f(a, a) { return a }\"); f(1)", "= undefined"}, {"function f(a, a) { return arguments.length } f(1)", "= 1"}, {"function f(f, f) { return f } f(1)", "= undefined"},
	}...)
}
