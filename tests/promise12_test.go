package tests

import (
	"strings"
	"testing"
)

// outsides are places of a name x that stands outside, of the value 1; @ stands for what is within, and
// behind it the name is read again.
func outsides() []string {
	return []string{
		"var x = 1; @ x", "x = 1; @ x", "this.x = 1; @ x", "function f(x) { @ return x } f(1)", "function f() { var x = 1; @ return x } f()", "with ({x: 1}) { @ x }", "function f() { eval(\"var x = 1\"); @ return x } f()",
		"function g(x) { return (function () { @ return x })() } g(1)", "function f(q) { with ({x: 1}) { @ return x } } f(0)", "function f() { for (var x in {\"1\": 0}) ; x = 1; @ return x } f()", "try { throw 1 } catch (x) { @ x }",
	}
}

func TestNamesOfEvalStandAhead(t *testing.T) {
	for _, outside := range outsides() {
		for _, c := range [][2]string{
			// Found by the function that brings it in, and by those within; the one outside stays as it was.
			{"(function () { eval(\"var x = 2\"); print(x) })();", "2"}, {"(function () { eval(\"var x = 2\"); x = x + 1; print(x) })();", "3"}, {"(function () { print(x); eval(\"var x = 2\"); print(x) })();", "1 2"},
			{"(function () { eval(\"var x\"); print(x) })();", "undefined"}, {"(function () { eval(\"var x = 2\"); print((function () { return x })()) })();", "2"}, {"(function () { eval(\"var x = 2\"); (function () { x = 5 })(); print(x) })();", "5"},
			{"(function () { var g = function () { return x }; print(g()); eval(\"var x = 2\"); print(g()); delete x; print(g()) })();", "1 2 1"}, {"(function () { eval(\"function x() { return 4 }\"); print(x()) })();", "4"}, {"(function () { eval(\"for (var x in {k: 1}) ;\"); print(x) })();", "k"},
			{"(function () { return (function () { eval(\"var x = 2\"); print(x) })() })(); print(x);", "2 1"}, {"(function () { var g = function () { eval(\"var x = 2\"); return x }; print(g()); print(x) })();", "2 1"}, {"(function () { eval(\"var x = 2\"); delete x; print(x) })();", "1"},
			{"(function () { eval(\"var x = 2\"); eval(\"x = 6\"); print(x); eval(\"delete x\"); print(x) })();", "6 1"}, {"(function () { with ({}) { eval(\"var x = 2\"); print(x) } print(x) })();", "2 2"}, {"(function () { try { throw 0 } catch (e) { eval(\"var x = 2\") } print(x) })();", "2"},
			// Strict eval code keeps it to itself; one that is called otherwise brings it outermost.
			{"(function () { eval(\"\\\"use strict\\\"; var x = 2; print(x)\"); print(x) })();", "2 1"}, {"(function () { \"use strict\"; eval(\"var x = 2; print(x)\"); print(x) })();", "2 1"}, {"(function (x) { eval(\"var x = 2\"); print(x) })(7);", "2"},
		} {
			wantEnd(t, strings.ReplaceAll(outside, "@", c[0]), c[1]+" = 1")
		}
	}
}

func TestNamesOfObjectsStandAhead(t *testing.T) {
	for _, outside := range outsides() {
		for _, c := range [][2]string{
			{"with ({x: 2}) { print(x) }", "2"}, {"with ({x: 2}) { x = 3; print(x) }", "3"}, {"with ({x: 2}) { print((function () { return x })()) }", "2"}, {"with ({x: 2}) { (function () { x = 5 })(); print(x) }", "5"}, {"with ({x: undefined}) { print(x) }", "undefined"},
			{"(function () { var o = {}; with (o) { print(x); o.x = 2; print(x); delete o.x; print(x) } })();", "1 2 1"}, {"(function () { var o = {}, g; with (o) { g = function () { return x } } print(g()); o.x = 2; print(g()); delete o.x; print(g()) })();", "1 2 1"},
			{"with ({x: 2}) { for (x in {k: 1}) ; print(x) }", "k"}, {"with ({x: 2}) { eval(\"x = 4\"); print(x) }", "4"}, {"with ({x: 2}) { eval(\"var y = x\"); print(y) }", "2"}, {"with ({x: 2}) { delete x; print(x) }", "1"},
			{"with ({x: 2}) with ({y: 3}) { print(x + y) }", "5"}, {"with ({x: 2}) with ({x: 3}) { print(x); delete x; print(x); delete x; print(x) }", "3 2 1"}, {"with ({x: 2}) { try { throw 3 } catch (x) { print(x) } print(x) }", "3 2"}, {"with ({X: 2}) { print(x) }", "1"},
			// Of a Proto: it stands ahead, too; what is written is the object's own.
			{"(function () { var F = function () {}, o; F.prototype.x = 2; o = new F(); with (o) { print(x); x = 3; print(x); delete x; print(x) } print(F.prototype.x) })();", "2 3 2 2"}, {"(function () { with ({x: 2}) { (function (x) { print(x) })(6); print(x) } })();", "6 2"},
			{"(function () { with ({x: 2}) { return (function () { eval(\"var x = 8\"); print(x) })() } })();", "8"}, {"(function () { eval(\"var x = 8\"); with ({x: 2}) { print(x) } print(x) })();", "2 8"}, {"(function () { with (arguments) { print(typeof length) } })();", "number"},
		} {
			wantEnd(t, strings.ReplaceAll(outside, "@", c[0]), c[1]+" = 1")
		}
	}
	wantEnd(t, "var x = 1; with ({x: 2}) { var x = 3; print(x) } x", "3 = 1")
	wantEnd(t, "function f(x) { with ({x: 2}) { var x = 3; print(x) } return x } f(1)", "3 = 1")
}
