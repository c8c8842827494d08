package tests

import (
	"strings"
	"testing"

	"loop.example/g00317/impl"
)

// noted puts ahead of a script what tells the order in which its parts run.
const noted = "function p(a, b) { print(a); return b } "

func TestValuesOfNodes(t *testing.T) {
	long := strings.Repeat("a", 1000)
	wantEnds(t, [][2]string{
		{"0", "= 0"}, {"999999999999999", "= 999999999999999"}, {"\"\"", "= ''"}, {"\"a\\n\\\\\\\"\"", "= 'a\n\\\"'"}, {"true", "= true"}, {"false", "= false"}, {"null", "= null"}, {"undefined", "= undefined"}, {"this", "= #0"},
		{"\"" + long + "\"", "= '" + long + "'"}, {"\"" + long + "b\"", "= NaN"}, {"typeof \"" + long + "b\"", "= 'number'"}, {"(\"" + long + "\").length", "= 1000"}, {"\"" + long + "\" + \"b\"", "= NaN"},
		// An object has its Props in order, those of too long keys left out.
		{"({})", "= #3"}, {"({a: {}})", "= #3"}, {"({a: {}}).a", "= #4"}, {"var o = {b: 1, a: 2, \"c d\": 3, \"\": 4}; for (k in o) print(k + \"=\" + o[k])", "b=1 a=2 c d=3 =4 = undefined"}, {"var o = {a: 1, b: 2, a: 3}; for (k in o) print(k + \"=\" + o[k])", "a=3 b=2 = undefined"},
		{noted + "var o = {a: p(1, 2), b: p(3, 4)}; o.a * 10 + o.b", "1 3 = 24"}, {"var o = {\"" + long + "\": 1}; o[\"" + long + "\"]", "= 1"}, {noted + "var o = {\"" + long + "b\": p(1), c: 2}; for (k in o) print(k)", "1 c = undefined"},
		{"({a: none, b: print(1)})", "! 'ReferenceError'"}, {"var o = {a: this, f: function () { return this.a }}; o.f()", "= #0"}, {"\"prototype\" in {}", "= false"}, {"({a: 1}).a", "= 1"},
		{"(function () {})", "= #3"}, {"typeof function () {}", "= 'function'"}, {"(function () { return 1 })()", "= 1"}, {"(function (a) { return a })", "= #3"},
	}...)
}

func TestMembers(t *testing.T) {
	wantEnds(t, [][2]string{
		{"undefined.a", "! 'TypeError'"}, {"null.a", "! 'TypeError'"}, {"undefined[0]", "! 'TypeError'"}, {"null[\"length\"]", "! 'TypeError'"}, {noted + "null[p(1)]", "1 ! 'TypeError'"}, {noted + "undefined[none]", "! 'ReferenceError'"}, {"var a; a.b", "! 'TypeError'"}, {"this.a.b", "! 'TypeError'"},
		{"\"abc\".length", "= 3"}, {"\"\".length", "= 0"}, {"\"abc\"[\"length\"]", "= 3"}, {"\"abc\"[0]", "= undefined"}, {"\"abc\".a", "= undefined"}, {"\"a\\nb\".length", "= 3"}, {"(5).length", "= undefined"}, {"true.a", "= undefined"}, {"(5).a", "= undefined"}, {"(-\"a\").a", "= undefined"}, {"(5)[1]", "= undefined"},
		{"var o = {a: 1}; o.a", "= 1"}, {"var o = {a: 1}; o.b", "= undefined"}, {"var o = {a: 1}; o[\"a\"]", "= 1"}, {"var o = {\"1\": 2}; o[1]", "= 2"}, {"var o = {\"-1\": 2}; o[-1]", "= 2"}, {"var o = {undefined1: 1, \"undefined\": 2}; o[undefined]", "= 2"}, {"var o = {\"null\": 2}; o[null]", "= 2"},
		{"var o = {\"true\": 2}; o[1 < 2]", "= 2"}, {"var o = {\"NaN\": 2}; o[-\"a\"]", "= 2"}, {"var o = {\"[object]\": 2}; o[o]", "= 2"}, {"var o = {length: 7}; o.length", "= 7"}, {"({}).length", "= undefined"}, {noted + "p(1, {a: 5})[p(2, \"a\")]", "1 2 = 5"},
		{"function F() {} F.prototype.a = 1; var o = new F(); o.a", "= 1"}, {"function F() {} F.prototype.a = 1; var o = new F(); o.a = 2; delete o.a; o.a", "= 1"}, {"function F() {} var o = new F(); F.prototype.b = 4; o.b", "= 4"}, {"function F() {} function G() {} F.prototype.a = 6; G.prototype = new F(); (new G()).a", "= 6"},
		{"function F() {} function G() {} F.prototype.a = 6; G.prototype = new F(); G.prototype.a = 7; delete G.prototype.a; (new G()).a", "= 6"}, {"function F() {} F.prototype.a = 1; var o = new F(); o.a = 2; F.prototype.a", "= 1"}, {"var o = {a: {b: {c: 3}}}; o.a.b.c", "= 3"}, {"none.a[print(1)]", "! 'ReferenceError'"},
	}...)
}

func TestAssignments(t *testing.T) {
	wantEnds(t, [][2]string{
		{"a = 1", "= 1"}, {"var a; a = 2; a", "= 2"}, {"var o = {}; o.a = 1", "= 1"}, {"var o = {}; o.a = 1; o.a = 2; o.a", "= 2"}, {"var o = {}; o[\"a\" + 1] = 2; o.a1", "= 2"}, {"var o = {}, a; a = o.b = 3; a + o.b", "= 6"}, {"var o = {}; o.o = o; o.o.o.a = 1; o.a", "= 1"},
		{noted + "var o = {}; p(1, o)[p(2, \"k\")] = p(3, 4); o.k", "1 2 3 = 4"}, {noted + "p(1, null)[p(2, \"k\")] = p(3, 4)", "1 2 ! 'TypeError'"}, {noted + "p(1, undefined).a = p(3, 4)", "1 ! 'TypeError'"}, {noted + "\"use strict\"; null.a = p(1)", "! 'TypeError'"},
		{noted + "p(1, 5)[p(2, \"k\")] = p(3, 4)", "1 2 3 = 4"}, {"\"abc\".length = 1", "= 1"}, {"\"abc\".length = 1; \"abc\".length", "= 3"}, {"true.a = 2", "= 2"}, {"(-\"a\").b = {}", "= #3"}, {"(5).a = \"x\"", "= 'x'"},
		{"\"use strict\"; function p(a, b) { print(a); return b } p(1, 5)[p(2, \"k\")] = p(3, 4)", "1 2 3 ! 'TypeError'"}, {"\"use strict\"; \"abc\".length = 1", "! 'TypeError'"}, {"\"use strict\"; true.a = 2", "! 'TypeError'"}, {"\"use strict\"; (-\"a\").b = 1", "! 'TypeError'"}, {"function f() { \"use strict\"; (1).a = 2 } f()", "! 'TypeError'"},
		{"\"use strict\"; var o = {}; o.a = 2; o.a", "= 2"}, {"function f() { return function () { (1).a = 2; return 3 } } f()()", "= 3"}, {"eval(\"\\\"use strict\\\"; (1).a = 2\")", "! 'TypeError'"}, {"function f() { (1).a = 2 } function g() { \"use strict\"; f(); return 4 } g()", "= 4"},
		{"function F() {} F.prototype.a = 1; var o = new F(); o.a = o.a + 1; o.a + F.prototype.a", "= 3"}, {"var o = {a: 1, b: 2}; o.a = 3; for (k in o) print(k)", "a b = undefined"}, {"var o = {a: 1, b: 2}; delete o.a; o.a = 3; for (k in o) print(k)", "b a = undefined"}, {"o = {}; o.f = function () { return this.g }; o.g = 5; o.f()", "= 5"},
		{"this.x = 1; x = 2; this.x", "= 2"}, {"this[\"a b\"] = 1; this[\"a b\"]", "= 1"}, {"eval = 5; typeof eval", "= 'number'"}, {"\"use strict\"; this.eval = 5; eval", "= 5"},
	}...)
}

func TestUnaries(t *testing.T) {
	wantEnds(t, [][2]string{
		{"!0", "= true"}, {"!1", "= false"}, {"!\"\"", "= true"}, {"!\"0\"", "= false"}, {"!null", "= true"}, {"!undefined", "= true"}, {"!this", "= false"}, {"!-\"a\"", "= true"}, {"!!{}", "= true"},
		{"-5", "= -5"}, {"- -5", "= 5"}, {"-0", "= 0"}, {"-\"12\"", "= -12"}, {"-\"a\"", "= NaN"}, {"-null", "= 0"}, {"-true", "= -1"}, {"-undefined", "= NaN"}, {"-{}", "= NaN"}, {"-\"\"", "= 0"}, {"-\" -7 \"", "= 7"}, {"-none", "! 'ReferenceError'"},
		{"typeof undefined", "= 'undefined'"}, {"typeof null", "= 'object'"}, {"typeof true", "= 'boolean'"}, {"typeof 1", "= 'number'"}, {"typeof -\"a\"", "= 'number'"}, {"typeof \"a\"", "= 'string'"}, {"typeof this", "= 'object'"}, {"typeof print", "= 'function'"}, {"typeof eval", "= 'function'"},
		{"function f() {} typeof f", "= 'function'"}, {"function f() {} typeof f.prototype", "= 'object'"}, {"function f() { return typeof arguments } f()", "= 'object'"}, {"typeof typeof 1", "= 'string'"}, {"typeof this.print", "= 'function'"}, {"typeof (1 + none)", "! 'ReferenceError'"}, {"var a; typeof a", "= 'undefined'"}, {"function F() {} typeof new F()", "= 'object'"},
		// delete of members.
		{"var o = {a: 1}; delete o.a", "= true"}, {"var o = {a: 1}; delete o.a; \"a\" in o", "= false"}, {"var o = {a: 1}; delete o[\"a\"]; \"a\" in o", "= false"}, {"var o = {a: 1}; delete o.b; o.a", "= 1"}, {"delete this.none", "= true"}, {"var a; delete this.a", "= false"}, {"\"use strict\"; var a; delete this.a", "! 'TypeError'"},
		{"\"use strict\"; delete this.none", "= true"}, {"\"use strict\"; var o = {a: 1}; delete o.a; \"a\" in o", "= false"}, {"function F() {} F.prototype.a = 1; var o = new F(); delete o.a", "= true"}, {"function F() {} F.prototype.a = 1; var o = new F(); delete o.a; o.a", "= 1"}, {"var o = {a: 1, b: 2, c: 3}; delete o.b; for (k in o) print(k)", "a c = undefined"},
		{"delete (5).a", "= true"}, {"delete \"abc\".length", "= true"}, {"delete \"abc\".length; \"abc\".length", "= 3"}, {"\"use strict\"; delete \"abc\".length", "= true"}, {"delete true[1]", "= true"}, {"delete null.a", "! 'TypeError'"}, {"delete undefined[0]", "! 'TypeError'"}, {noted + "delete p(1, {})[p(2, 3)]", "1 2 = true"}, {noted + "delete null[p(1)]", "1 ! 'TypeError'"},
		{noted + "delete p(1, 5)[p(2, 3)]", "1 2 = true"}, {"delete none.a", "! 'ReferenceError'"}, {"function f() { \"use strict\"; return delete f.prototype } f()", "! 'TypeError'"}, {"function f() { return delete f.prototype } f()", "= false"},
		// delete of all else runs it.
		{"delete 1", "= true"}, {"delete \"a\"", "= true"}, {"delete this", "= true"}, {noted + "delete p(1)", "1 = true"}, {"delete (1 + none)", "! 'ReferenceError'"}, {"delete !print(1)", "1 = true"}, {"delete (a = 5); a", "= 5"}, {"\"use strict\"; delete print(1)", "1 = true"}, {"delete {}", "= true"}, {"delete function () {}", "= true"}, {"var a = 1; delete (true ? a : 0)", "= true"},
		{"var a = 1; delete (true ? a : 0); a", "= 1"}, {"delete typeof none", "= true"}, {"delete new print()", "! 'TypeError'"},
	}...)
}

func TestBinaries(t *testing.T) {
	wantEnds(t, [][2]string{
		{noted + "p(1, 0) && p(2, 3)", "1 = 0"}, {noted + "p(1, 5) && p(2, 3)", "1 2 = 3"}, {noted + "p(1, 5) || p(2, 3)", "1 = 5"}, {noted + "p(1, \"\") || p(2, 0)", "1 2 = 0"}, {"null && none", "= null"}, {"{} || none", "code 3"}, {"({}) || none", "= #3"}, {"1 && 0 || 2", "= 2"}, {"undefined || null", "= null"}, {"0 && 1 && none", "= 0"},
		{noted + "p(1, \"a\") in p(2, {a: 1})", "1 2 = true"}, {"\"b\" in {a: 1}", "= false"}, {"1 in {\"1\": 0}", "= true"}, {"undefined in {\"undefined\": 0}", "= true"}, {noted + "p(1, \"a\") in p(2, 5)", "1 2 ! 'TypeError'"}, {"\"length\" in \"abc\"", "! 'TypeError'"}, {"\"a\" in null", "! 'TypeError'"}, {"\"a\" in undefined", "! 'TypeError'"},
		{"function F() {} F.prototype.a = 1; \"a\" in new F()", "= true"}, {"\"constructor\" in {}", "= false"}, {"function F() {} \"constructor\" in new F()", "= true"}, {"\"print\" in this", "= true"}, {"none in 1", "! 'ReferenceError'"}, {"\"0\" in (function () { return arguments })(1)", "= true"},
		{noted + "p(1, 2) + p(3, 4)", "1 3 = 6"}, {noted + "none + p(1)", "! 'ReferenceError'"}, {noted + "p(1) + none", "1 ! 'ReferenceError'"}, {noted + "p(1, 1) === p(2, 1)", "1 2 = true"}, {noted + "p(1, 1) > p(2, 0)", "1 2 = true"}, {noted + "p(1, 1) <= p(2, 0)", "1 2 = false"}, {noted + "p(1, 1) >= p(2, 0)", "1 2 = true"},
		{noted + "(p(1, 1) && none) + p(2)", "1 ! 'ReferenceError'"}, {"1 + \"a\"", "= '1a'"}, {"\"a\" + {}", "= 'a[object]'"}, {"1 + true", "= 2"}, {"1 + undefined", "= NaN"}, {"7 - 9", "= -2"}, {"7 * -3", "= -21"}, {"7 / -2", "= -3"}, {"-7 % 2", "= -1"}, {"1 / 0", "= NaN"}, {"\"6\" / \"2\"", "= 3"},
	}...)
}

// Each operator tells what the functions of chapter 5 do.
func TestOperatorsAreThoseOfValues(t *testing.T) {
	values := []string{"undefined", "null", "true", "false", "0", "1", "-1", "12", "999999999999999", "(-\"a\")", "\"\"", "\"a\"", "\"b\"", "\"12\"", "\" 1 \"", "\"[object]\"", "this", "print"}
	vs := []impl.Value{missing, null, yes, no, num(0), num(1), num(-1), num(12), num(999999999999999), bad, written(""), written("a"), written("b"), written("12"), written(" 1 "), written("[object]"), ref(0), ref(2)}
	for i, x := range values {
		for j, y := range values {
			a, b := vs[i], vs[j]
			less, more := impl.Less(a, b), impl.Less(b, a)
			for op, want := range map[string]impl.Value{
				"===": truth(impl.Alike(a, b)), "!==": truth(!impl.Alike(a, b)), "==": truth(impl.Equal(a, b)), "!=": truth(!impl.Equal(a, b)),
				"<": truth(less == yes), ">": truth(more == yes), "<=": truth(more == no), ">=": truth(less == no),
				"+": impl.Compute("+", a, b), "-": impl.Compute("-", a, b), "*": impl.Compute("*", a, b), "/": impl.Compute("/", a, b), "%": impl.Compute("%", a, b),
			} {
				text := x + " " + op + " " + y
				if out := impl.Run(text, 99); out.Value != want || out.Threw || out.Code != impl.OK {
					t.Errorf("%s: got %+v, want %+v", text, out, want)
				}
			}
		}
	}
}

func TestConditions(t *testing.T) {
	wantEnds(t, [][2]string{
		{"1 ? 2 : 3", "= 2"}, {"0 ? 2 : 3", "= 3"}, {noted + "p(1, 1) ? p(2, 5) : p(3, 6)", "1 2 = 5"}, {noted + "p(1, 0) ? p(2, 5) : p(3, 6)", "1 3 = 6"}, {"1 ? 2 : none", "= 2"}, {"none ? 1 : 2", "! 'ReferenceError'"}, {"\"\" ? 1 : null ? 2 : 3", "= 3"}, {"this ? 1 : 2", "= 1"},
	}...)
}

func TestCalls(t *testing.T) {
	wantEnds(t, [][2]string{
		{noted + "p(p(1, 2), p(3, 4))", "1 3 2 = 4"}, {noted + "p(1, print)(p(2, \"x\"), p(3))", "1 2 3 x = undefined"}, {noted + "var o = {f: p}; p(1, o)[p(2, \"f\")](p(3, 4), p(5, 6))", "1 2 3 5 4 = 6"},
		// What is no function is told behind the arguments; what has no member ahead of them.
		{"1(print(1))", "1 ! 'TypeError'"}, {"\"a\"()", "! 'TypeError'"}, {"null(print(1))", "1 ! 'TypeError'"}, {"undefined()", "! 'TypeError'"}, {"this(print(1))", "1 ! 'TypeError'"}, {"({})()", "! 'TypeError'"}, {"var o = {}; o.f(print(1))", "1 ! 'TypeError'"}, {"var o; o.f(print(1))", "! 'TypeError'"},
		{"null[print(1)](print(2))", "1 ! 'TypeError'"}, {"function f() {} f.prototype(print(1))", "1 ! 'TypeError'"}, {"var f = 5; f(print(1))", "1 ! 'TypeError'"}, {"(-\"a\")()", "! 'TypeError'"}, {"\"abc\".length()", "! 'TypeError'"}, {"none(print(1))", "! 'ReferenceError'"}, {"(function () { return arguments })()()", "! 'TypeError'"}, {"function f() {} 3()", "! 'TypeError'"}, {"function f() {} new 3()", "! 'TypeError'"}, {"function f() {} typeof 3", "= 'number'"},
		{"var f = print; f = (f(1), 2)", "code 3"}, {"var f = function () { return 1 }; f(f = 5)", "= 1"}, {"var o = {f: function () { return 1 }}; o.f(o.f = 5)", "= 1"},
		// A function tells what return tells.
		{"function f() {} f()", "= undefined"}, {"function f() { return } f()", "= undefined"}, {"function f() { return 1; print(2) } f()", "= 1"}, {"function f() { 1 } f()", "= undefined"}, {"function f() { while (true) { return 1 } } f()", "= 1"}, {"function f() { for (k in {a: 1}) return k } f()", "= 'a'"}, {"function f() { with ({a: 1}) return a } f()", "= 1"},
		{"function f() { if (true) { { return 1 } } return 2 } f()", "= 1"}, {"function f() { throw 1 } f()", "! 1"}, {"function f() { return none } f()", "! 'ReferenceError'"}, {"function f(a) { return a } f({})", "= #5"}, {"(function f1() {})", "code 3"},
		// print and eval as they are called.
		{"print()", "undefined = undefined"}, {"print(1, 2)", "1 = undefined"}, {"print({}); print(null); print(-\"a\"); print(\"a b\"); print(-5); print(1 < 2); print(\"\")", "[object] null NaN a b -5 true  = undefined"}, {"var a = print(1); a", "1 = undefined"}, {"this.print(3)", "3 = undefined"}, {"var o = {p: print}; o.p(4)", "4 = undefined"},
		{"with ({print: function (a) { return a + 1 }}) print(5)", "= 6"}, {"print(none)", "! 'ReferenceError'"}, {"print(print)", "[object] = undefined"}, {"eval()", "= undefined"}, {"eval(5, none)", "! 'ReferenceError'"}, {"eval(5, \"6\")", "= 5"}, {"eval(null)", "= null"}, {"eval(this)", "= #0"}, {"eval(-\"a\")", "= NaN"},
	}...)
}

func TestLinesThatArePrinted(t *testing.T) {
	for _, c := range [][2]int{{0, 0}, {59, 59}, {60, 60}, {61, 60}, {500, 60}} {
		out := impl.Run("var i = 0; while (i < "+decimal(c[0])+") { i = i + 1; print(i) } i", allSteps)
		if len(out.Log) != c[1] || out.Value != num(int64(c[0])) || out.Code != impl.OK {
			t.Errorf("%d are printed: got %+v", c[0], out)
		}
		for i, line := range out.Log {
			if line != decimal(i+1) {
				t.Errorf("the line %d is %q", i, line)
			}
		}
	}
	long := strings.Repeat("a", 1000)
	if out := impl.Run("print(\""+long+"\"); print(\"a\\nb\")", 99); len(out.Log) != 2 || out.Log[0] != long || out.Log[1] != "a\nb" {
		t.Errorf("got %+v", out)
	}
	out := impl.Run("try { while (true) { print(1); print({}) } } finally { print(2) }", allSteps)
	if len(out.Log) != 60 || out.Log[58] != "1" || out.Log[59] != "[object]" || out.Code != impl.ErrFull {
		t.Errorf("got %+v", out)
	}
}

func TestNew(t *testing.T) {
	wantEnds(t, [][2]string{
		{"function F() {} new F()", "= #5"}, {"function F(a) { this.a = a } (new F(5)).a", "= 5"}, {"function F(a, b) { this.a = arguments.length } (new F(5, 6, 7)).a", "= 3"}, {noted + "p(1, {F: function () { print(9) }}); new (p)(2, 3)", "1 2 = #9"}, {"function F() {} var o = {F: F}; new o.F()", "= #6"}, {"var o = {F: function () { this.a = 1 }}; (new o.F()).a", "= 1"},
		{"var o = {F: function () { return this === o }}; typeof new o.F()", "= 'object'"}, {noted + "var o = {F: p}; new o[\"F\"](print(1), print(2))", "1 2 undefined = #6"},
		// What it tells, if that is an object; else the new one.
		{"function F() { this.a = 1; return {a: 2} } (new F()).a", "= 2"}, {"function F() { this.a = 1; return 5 } (new F()).a", "= 1"}, {"function F() { this.a = 1; return null } (new F()).a", "= 1"}, {"function F() { this.a = 1; return \"x\" } (new F()).a", "= 1"}, {"function F() { return F } new F()", "= #3"}, {"function F() { return arguments } typeof (new F(1))[0]", "= 'number'"}, {"function F() { return this } new F()", "= #5"},
		// Its Proto is what prototype is then, if that is an object.
		{"function F() {} F.prototype.a = 1; (new F()).a", "= 1"}, {"function F() {} var o = new F(); F.prototype = {a: 1}; o.a", "= undefined"}, {"function F() {} F.prototype = {a: 1}; (new F()).a", "= 1"}, {"function F() {} F.prototype = 5; (new F()).constructor", "= undefined"}, {"function F() {} F.prototype = null; var o = new F(); o.a = 1; o.a", "= 1"},
		{"function F() {} F.prototype = F; (new F()).prototype === F", "= true"}, {"function F() {} F.prototype = print; print.a = 7; (new F()).a", "= 7"}, {"function F() {} F.prototype = this; (new F()).F === F", "= true"}, {"function F() { return this.a } F.prototype = {a: {}}; new F()", "= #6"}, {"function F() { F.prototype = {a: 1} } (new F()).a", "= undefined"}, {"function F() {} (new F(F.prototype = {a: 1})).a", "= 1"},
		{"function F() {} new F().constructor === F", "= true"}, {"function F() { \"use strict\"; this.a = this.b } F.prototype.b = 3; (new F()).a", "= 3"}, {"var F = function () { this.a = 1 }; for (k in new F()) print(k)", "a = undefined"},
		// What is no function, and eval and print, behind the arguments.
		{"new 1(print(1))", "1 ! 'TypeError'"}, {"new this(print(1))", "1 ! 'TypeError'"}, {"new eval(print(1))", "1 ! 'TypeError'"}, {"new print(print(1))", "1 ! 'TypeError'"}, {"new eval(\"1\")", "! 'TypeError'"}, {"new \"a\"()", "! 'TypeError'"}, {"new undefined()", "! 'TypeError'"}, {"new none(print(1))", "! 'ReferenceError'"}, {"var o = {}; new o.f(print(1))", "1 ! 'TypeError'"}, {"new null.f(print(1))", "! 'TypeError'"},
		{"function F() { throw 5 } new F()", "! 5"}, {"function F() {} new F(none)", "! 'ReferenceError'"}, {"with ({F: function () { this.a = 1 }, a: 5}) { new F(); a }", "= 5"}, {"function f(n) { return n < 30 ? f(n + 1) : new f(print(1)) } f(1)", "1 ! 'RangeError'"},
	}...)
}
