package tests

import (
	"reflect"
	"strings"
	"testing"

	"loop.example/g00317/impl"
)

const allSteps = 100000

// valueText is a value as the tests write it: texts stand between bytes 39, objects behind #.
func valueText(v impl.Value) string {
	switch v.Kind {
	case impl.VText:
		return "'" + v.Text + "'"
	case impl.VRef:
		return "#" + decimal(int(v.Num))
	}
	return impl.ToText(v)
}

// endOf is what a script has printed, and behind it = and its value, ! and what it threw, or the code.
func endOf(out impl.RunOut) string {
	list := append([]string{}, out.Log...)
	switch {
	case out.Code != impl.OK:
		list = append(list, "code "+decimal(int(out.Code)))
	case out.Threw:
		list = append(list, "! "+valueText(out.Value))
	default:
		list = append(list, "= "+valueText(out.Value))
	}
	return strings.Join(list, " ")
}

// wantEnd holds how a script ends against what is wanted, and holds it to promise 9.
func wantEnd(t *testing.T, text string, want string) {
	t.Helper()
	out := impl.Run(text, allSteps)
	if got := endOf(out); got != want {
		t.Errorf("%s\ngot  %.400s\nwant %.400s", text, got, want)
	}
	wantStepsKept(t, text, out)
}

// wantEnds holds scripts against how they end.
func wantEnds(t *testing.T, list ...[2]string) {
	t.Helper()
	for _, c := range list {
		wantEnd(t, c[0], c[1])
	}
}

// quote stands for a script's text within one.
func quote(text string) string {
	return impl.Quote(text)
}

func TestStepsOfNodes(t *testing.T) {
	for _, c := range []struct {
		text  string
		steps int64
	}{
		{"", 1}, {";", 2}, {";;;", 4}, {"{}", 2}, {"{;{;}}", 5}, {"function f() {}", 2}, {"function f() { 1; 2; 3 }", 2},
		{"\"use strict\"", 1}, {"\"use strict\"; 1", 3}, {"\"a\"", 3},
		{"1", 3}, {"\"use strict\" + 1", 5}, {"true", 3}, {"this", 3}, {"null; undefined; false", 7}, {"print", 3},
		{"(function () { 1; 2; 3 })", 3}, {"({})", 3}, {"({a: 1, b: \"c\", \"d\": {}})", 6},
		{"this.a", 4}, {"this[1]", 5}, {"this.a[this.b]", 7}, {"\"a\".length", 4},
		// What is written takes none, but its Kids do.
		{"a = 1", 4}, {"this.a = 1", 5}, {"this[1] = 2", 6}, {"a = b = 1", 5}, {"this[a = 1] = 2", 7}, {"a = {}; a.b = {}; a.b.c = 1", 1 + 3 + 4 + 5},
		{"this[this.a] = this.b", 1 + 2 + 1 + 2 + 2},
		{"!1", 4}, {"-1", 4}, {"!-!1", 6}, {"typeof 1", 4}, {"typeof print", 4}, {"typeof none", 4}, {"typeof typeof none", 5}, {"typeof this.a", 5},
		{"delete 1", 4}, {"delete none", 4}, {"delete print", 4}, {"delete this.a", 5}, {"delete this[1]", 6}, {"delete this.a.b", 0}, {"delete delete 1", 5}, {"delete -1", 5},
		{"1 + 2", 5}, {"1 + 2 * 3", 7}, {"1 && 2", 5}, {"0 && 2", 4}, {"1 || 2", 4}, {"0 || 2", 5}, {"0 && (1 + 2)", 4}, {"1 in this", 5}, {"1 === 2", 5}, {"1 <= 2", 5},
		{"1 ? 2 : 3 + 4", 5}, {"0 ? 2 : 3 + 4", 7},
		{"print()", 4}, {"print(1)", 5}, {"print(1, 2 + 3)", 8}, {"this.print()", 5}, {"this[\"print\"](1)", 7}, {"(1 ? print : 2)()", 6},
		{"function f() {} f()", 5}, {"function f() { 1; ; }  f()", 8}, {"function f() { return } f()", 6}, {"function f() { return 1 } f()", 7},
		{"function f() { function g() { 1; 2 } } f()", 6}, {"function f(a, b) { return a } f(1)", 8}, {"(function () { 1 })()", 6},
		{"function F() {} new F()", 5}, {"function F() {} new F(1)", 6}, {"function F() {;} new F(1 + 1)", 9}, {"function F() {} (new F()).a", 6},
		// Eval code is a program.
		{"eval()", 4}, {"eval(1)", 5}, {"eval(\"\")", 6}, {"eval(\"1\")", 8}, {"eval(\";;\")", 8}, {"this.eval(\"1\")", 9}, {"eval(\"eval(\\\"1\\\")\")", 1 + 4 + 1 + 4 + 3},
		{"function f() { return eval(\"1\") } f()", 1 + 1 + 3 + 4 + 3}, {"try { eval(\"(\") } catch (e) {}", 8}, {"eval(\"function f() { 1 }\")", 7},
		{"var a", 2}, {"var a, b, c", 2}, {"var a = 1", 3}, {"var a = 1, b, c = 2 + 3", 6},
		{"if (1) {}", 4}, {"if (1) ;", 5}, {"if (0) ;", 3}, {"if (0) ; else ;", 5}, {"if (0) {} else {}", 4}, {"if (1) {} else {;;}", 4}, {"if (1) {{}}", 5},
		{"while (0) ;", 3}, {"while (1) break", 5}, {"while (1) { break }", 5}, {"var i = 0; while (i < 2) i = i + 1", 1 + 2 + 1 + 3*3 + 2*(1+1+1+3)},
		{"for (k in 1) ;", 3}, {"for (k in {}) {}", 3}, {"for (k in {a: 1}) {}", 5}, {"for (var k in {a: 1, b: 2}) ;", 9}, {"for (k in {a: 1, b: 2}) break", 7},
		{"with (this) {}", 4}, {"with (this) ;", 5}, {"with (this) {;;}", 6},
		{"try {} catch (e) {}", 3}, {"try {;} finally {}", 5}, {"try {} catch (e) {;} finally {;}", 5}, {"try { throw 1 } catch (e) {}", 6}, {"try { throw 1 } catch (e) {} finally {}", 7},
		{"try { throw e } catch (e) { e } finally {}", 9}, {"throw 1", 3}, {"none", 3}, {"none + 1", 4}, {"none(1)", 4}, {"1(2)", 5}, {"print(none)", 5}, {"null[1]", 5},
	} {
		out := impl.Run(c.text, allSteps)
		if c.steps > 0 && (out.Steps != c.steps || out.Code != impl.OK) {
			t.Errorf("%s takes %d steps, not %d (%s)", c.text, out.Steps, c.steps, endOf(out))
		}
		wantStepsKept(t, c.text, out)
	}
}

// A fault ends what runs: what is behind it takes no steps.
func TestStepsBehindFaults(t *testing.T) {
	for _, c := range []struct {
		text  string
		steps int64
	}{
		{"delete this.a.b", 6}, {"throw 1; 2; 3", 3}, {"throw none; 2", 3}, {"print(1 + none, 2, 3)", 7}, {"var a = none, b = 1", 3}, {"({a: none, b: 1})", 4},
		{"if (none) { 1 } else { 2 }", 3}, {"while (none) 1", 3}, {"for (k in none) 1", 3}, {"with (none) 1", 3}, {"with (1) 1", 3}, {"none ? 1 : 2", 4},
		{"none && 1", 4}, {"none || 1", 4}, {"none[1]", 4}, {"this[none] = 1", 5}, {"null.a = 1 + 1", 4}, {"null[1] = 1 + 1", 5}, {"a = none", 4}, {"new none(1)", 4}, {"new 1(2)", 5},
		{"\"use strict\"; a = 1 + 1", 6}, {"\"use strict\"; (1).a = 2", 5}, {"\"use strict\"; for (a in {b: 1, c: 2}) ;", 5}, {"1 in 2", 5}, {"try { 1; none; 2 } finally { 3 }", 10},
	} {
		out := impl.Run(c.text, allSteps)
		if out.Steps != c.steps || out.Code != impl.OK || !out.Threw {
			t.Errorf("%s takes %d steps, not %d (%s)", c.text, out.Steps, c.steps, endOf(out))
		}
		wantStepsKept(t, c.text, out)
	}
}

func TestRunIsRefused(t *testing.T) {
	long := strings.Repeat(" ", impl.MaxBytes)
	deep := strings.Repeat("!", 40) + "1"
	for _, c := range []struct {
		text  string
		steps int64
		code  int64
	}{
		{"1", -1, impl.ErrForm}, {"1", allSteps + 1, impl.ErrForm}, {"1", 1 << 62, impl.ErrForm}, {"1", -1 << 63, impl.ErrForm},
		{long + "1", 5, impl.ErrSize}, {long + "1", -1, impl.ErrSize}, {long + "1", allSteps + 1, impl.ErrSize},
		{"(", -1, impl.ErrForm}, {"return", allSteps + 1, impl.ErrForm}, {deep, -1, impl.ErrForm}, {"", -1, impl.ErrForm},
		{"(", 0, impl.ErrSyntax}, {"\"", 5, impl.ErrSyntax}, {"1 2", 5, impl.ErrSyntax}, {"return", 5, impl.ErrEarly}, {"break", 0, impl.ErrEarly},
		{"\"use strict\"; with (this) {}", 5, impl.ErrEarly}, {deep, 5, impl.ErrFull}, {deep[2:], 0, impl.ErrFull}, {strings.Repeat(";", 601), 9, impl.ErrSyntax},
		{"print(1); (", 5, impl.ErrSyntax}, {"print(1); break", 5, impl.ErrEarly}, {"a;\n#", 50, impl.ErrSyntax},
	} {
		if got, want := impl.Run(c.text, c.steps), (impl.RunOut{Code: c.code}); !reflect.DeepEqual(got, want) {
			t.Errorf("Run(%.40q, %d): got %+v, want %+v", c.text, c.steps, got, want)
		}
	}
	for _, c := range []struct {
		text  string
		steps int64
		want  impl.RunOut
	}{
		{"1", allSteps, impl.RunOut{Value: num(1), Steps: 3}}, {"1", 3, impl.RunOut{Value: num(1), Steps: 3}}, {"1", 2, impl.RunOut{Steps: 2, Code: impl.ErrSteps}},
		{"1", 0, impl.RunOut{Code: impl.ErrSteps}}, {"", allSteps, impl.RunOut{Steps: 1}}, {long, 5, impl.RunOut{Steps: 1}}, {long[1:] + "7", 5, impl.RunOut{Value: num(7), Steps: 3}},
		{deep[3:], 50, impl.RunOut{Value: no, Steps: 40}}, {strings.Repeat(";", 600), 601, impl.RunOut{Steps: 601}},
		{"throw 1", 9, impl.RunOut{Value: num(1), Threw: true, Steps: 3}}, {"throw undefined", 9, impl.RunOut{Threw: true, Steps: 3}},
		{"print(1); throw \"a\"", 9, impl.RunOut{Value: written("a"), Threw: true, Log: []string{"1"}, Steps: 7}},
		{"print(1); none; print(2)", 9, impl.RunOut{Value: written("ReferenceError"), Threw: true, Log: []string{"1"}, Steps: 7}},
		{"print(1); print(2); 3", 9, impl.RunOut{Log: []string{"1", "2"}, Steps: 9, Code: impl.ErrSteps}}, {"print(1); print(2); 3", 8, impl.RunOut{Log: []string{"1"}, Steps: 8, Code: impl.ErrSteps}},
	} {
		if got := impl.Run(c.text, c.steps); !reflect.DeepEqual(got, c.want) {
			t.Errorf("Run(%.40q, %d): got %+v, want %+v", c.text, c.steps, got, c.want)
		}
	}
}

// What ends all is not caught, and nothing runs behind it.
func TestNothingCatchesTheEndOfSteps(t *testing.T) {
	for _, text := range []string{
		"print(1); try { while (true) {} } catch (e) { print(2) }", "print(1); try { while (true) {} } finally { print(2) }",
		"print(1); try { while (true) {} } catch (e) { print(2) } finally { print(3) }", "print(1); while (true) try { while (true) ; } finally { break }",
		"print(1); function f() { try { while (true) {} } finally { return 2 } } f(); print(3)", "print(1); try { try { throw 1 } catch (e) { while (true) {} } } finally { print(2) }",
		"print(1); try { try { throw 1 } finally { while (true) {} } } catch (e) { print(2) }", "print(1); try { eval(\"while (true) {}\") } catch (e) { print(2) } finally { print(3) }",
		"print(1); function F() { while (true) {} } try { new F() } catch (e) { print(2) } finally { print(3) }", "print(1); try { with (this) while (true) {} } finally { print(2) }",
		"print(1); try { for (k in {a: 1}) while (true) {} } finally { print(2) }", "print(1); while (true) { try { throw 1 } catch (e) { continue } finally { } }",
	} {
		for _, steps := range []int64{50, 51, 52, 53, 54, 55, 1000, 2999, allSteps} {
			got, want := impl.Run(text, steps), impl.RunOut{Log: []string{"1"}, Steps: steps, Code: impl.ErrSteps}
			if !reflect.DeepEqual(got, want) {
				t.Errorf("%s with %d steps: got %+v", text, steps, got)
			}
		}
	}
}

func TestNothingCatchesTooManyObjects(t *testing.T) {
	for _, c := range []struct {
		text string
		log  string
	}{
		{"while (true) ({})", ""}, {"print(1); try { while (true) ({}) } catch (e) { print(2) }", "1"}, {"print(1); try { while (true) ({}) } finally { print(2) }", "1"},
		{"print(1); try { while (true) ({}) } catch (e) { print(2) } finally { print(3) } print(4)", "1"}, {"print(1); while (true) try { while (true) ({}) } finally { break }", "1"},
		{"print(1); function f() { try { while (true) ({}) } finally { return 2 } } f(); print(3)", "1"}, {"print(1); try { while (true) (function () {}) } catch (e) { print(2) } finally { print(3) }", "1"},
		{"print(1); function f() {} try { while (true) f() } catch (e) { print(2) } finally { print(3) }", "1"}, {"print(1); function F(arguments) {} try { while (true) new F() } finally { print(3) }", "1"},
		{"print(1); try { while (true) eval(\"({})\") } catch (e) { print(2) } finally { print(3) }", "1"}, {"print(1); try { while (true) eval(\"function f() {}\") } finally { print(3) }", "1"},
	} {
		out := impl.Run(c.text, allSteps)
		if out.Code != impl.ErrFull || out.Threw || out.Value != missing || out.Steps < 390 || strings.Join(out.Log, " ") != c.log {
			t.Errorf("%s: got %+v", c.text, out)
		}
		if again := impl.Run(c.text, out.Steps); !reflect.DeepEqual(again, out) {
			t.Errorf("%s with %d steps: got %+v, want %+v", c.text, out.Steps, again, out)
		}
		if fewer := impl.Run(c.text, out.Steps-1); fewer.Code != impl.ErrSteps || fewer.Steps != out.Steps-1 {
			t.Errorf("%s with %d steps: got %+v", c.text, out.Steps-1, fewer)
		}
	}
}

// There are 400 objects at most; three are there at first.
func TestHowManyObjectsThereMayBe(t *testing.T) {
	const counted = "var i = 0; while (i < @) { i = i + 1; "
	for _, c := range []struct {
		each string
		most int
	}{
		{"({})", 397}, {"(function () {})", 198}, {"({a: {}})", 198}, {"eval(\"({})\")", 397}, {"1", 1000},
	} {
		for i, want := range []string{"= ", "code 7"} {
			if i == 1 && c.most == 1000 {
				continue
			}
			text := strings.ReplaceAll(counted, "@", decimal(c.most+i)) + c.each + " }"
			if got := endOf(impl.Run(text, allSteps)); !strings.HasPrefix(got, want) {
				t.Errorf("%s: got %s", text, got)
			}
		}
	}
	// A function takes two, a call one for its arguments, unless they are a parameter; new takes one.
	for _, c := range [][3]string{
		{"function f() {} var i = 0; while (i < @) { i = i + 1; f() }", "395", "396"},
		{"function f(arguments) {} var i = 0; while (i < @) { i = i + 1; f() }", "2000", ""},
		{"function F() {} var i = 0; while (i < @) { i = i + 1; new F() }", "197", "198"},
		{"function F(arguments) {} var i = 0; while (i < @) { i = i + 1; new F() }", "395", "396"},
		{"function f() { function g() {} } var i = 0; while (i < @) { i = i + 1; f() }", "131", "132"},
		{"function f() { \"use strict\" } var i = 0; while (i < @) { i = i + 1; f() }", "395", "396"},
	} {
		if got := endOf(impl.Run(strings.ReplaceAll(c[0], "@", c[1]), allSteps)); !strings.HasPrefix(got, "= ") {
			t.Errorf("%s with %s: got %s", c[0], c[1], got)
		}
		if c[2] == "" {
			continue
		}
		if got := endOf(impl.Run(strings.ReplaceAll(c[0], "@", c[2]), allSteps)); got != "code 7" {
			t.Errorf("%s with %s: got %s", c[0], c[2], got)
		}
	}
}
