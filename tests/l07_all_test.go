package tests

import (
	"reflect"
	"slices"
	"strings"
	"testing"
	"unsafe"

	"loop.example/g00317/impl"
)

// wantAll holds how programs that run one behind the other end, and the Globals behind them.
func wantAll(t *testing.T, texts []string, steps int64, ends string, globals string) {
	t.Helper()
	var got []string
	for _, out := range impl.RunAll(texts, steps) {
		got = append(got, endOf(out))
	}
	if list := strings.Join(got, " | "); list != ends {
		t.Errorf("RunAll(%.300q, %d)\ngot  %.400s\nwant %.400s", texts, steps, list, ends)
	}
	if list := strings.Join(impl.Globals(texts, steps), " "); list != globals {
		t.Errorf("Globals(%.300q, %d)\ngot  %.400s\nwant %.400s", texts, steps, list, globals)
	}
}

func times(n int, text string) []string {
	return slices.Repeat([]string{text}, n)
}

func TestRunAllIsRefused(t *testing.T) {
	for _, texts := range [][]string{nil, {}, times(11, "1"), times(12, ""), times(400, "1"), times(401, "1"), times(5000, "1")} {
		wantAll(t, texts, 99, "", "")
	}
	for _, steps := range []int64{-1, allSteps + 1, 1 << 62, -1 << 63} {
		wantAll(t, []string{"var a = 1"}, steps, "", "")
		wantAll(t, []string{"("}, steps, "", "")
	}
	wantAll(t, times(10, "var a = 1; a"), 99, strings.Repeat("= 1 | ", 9)+"= 1", "a=1")
	wantAll(t, []string{"var a = 1"}, 0, "code 6", "")
	wantAll(t, []string{"var a = 1; a"}, allSteps, "= 1", "a=1")
}

func TestProgramsRunOneBehindTheOther(t *testing.T) {
	long := strings.Repeat(" ", impl.MaxBytes+1)
	deep := strings.Repeat("!", 40) + "1"
	for _, c := range []struct {
		texts         []string
		ends, globals string
	}{
		{[]string{"var a = 4", "a + 1"}, "= undefined | = 5", "a=4"}, {[]string{"a = 4", "var a; a"}, "= 4 | = 4", "a=4"}, {[]string{"function f() { return 1 }", "f()", "f = 5", "f"}, "= undefined | = 1 | = 5 | = 5", "f=5"},
		{[]string{"a = 1", "var a; delete a"}, "= 1 | = true", ""}, {[]string{"var a = 1", "delete a"}, "= undefined | = false", "a=1"}, {[]string{"eval(\"var a = 1\")", "delete a", "typeof a"}, "= undefined | = true | = 'undefined'", ""}, {[]string{"1", ""}, "= 1 | = undefined", ""},
		{[]string{"({})", "({})", "(function () {})", "({})"}, "= #3 | = #4 | = #5 | = #7", ""}, {[]string{"function f() { return a }", "f()", "var a = 2; f()"}, "= undefined | ! 'ReferenceError' | = 2", "f=[object] a=2"}, {[]string{"var o = {n: 0}", "o.n = o.n + 1", "o.n = o.n + 1", "o.n"}, "= undefined | = 1 | = 2 | = 2", "o=[object]"},
		{[]string{"function c() { var n = 0; return function () { n = n + 1; return n } } var d = c()", "d()", "d()", "d() + n"}, "= undefined | = 1 | = 2 | ! 'ReferenceError'", "c=[object] d=[object]"}, {[]string{"var k; with ({a: 1}) k = function () { return a }", "var a = 2; k()", "try { throw 3 } catch (e) { k = function () { return e } }", "k()"}, "= #4 | = 1 | = #7 | = 3", "k=[object] a=2"},
		// What throws, or is not read, doesn't keep the next ones from running.
		{[]string{"var a = 1; throw a; a = 2", "a"}, "! 1 | = 1", "a=1"}, {[]string{"var a = 1", "a = 2; (", "return", "a"}, "= undefined | code 3 | code 4 | = 1", "a=1"}, {[]string{"(", "#"}, "code 3 | code 3", ""}, {[]string{long, "1"}, "code 2 | = 1", ""}, {[]string{"var a = 1", long, "a"}, "= undefined | code 2 | = 1", "a=1"},
		{[]string{"var a = 1; none", "var b = 2; null.a", "a + b"}, "! 'ReferenceError' | ! 'TypeError' | = 3", "a=1 b=2"}, {[]string{"function f() { f() } f()", "function g() { g() } g()"}, "! 'RangeError' | ! 'RangeError'", "f=[object] g=[object]"},
		// Each has a Log of its own, its own this and value, and is strict or not by itself.
		{[]string{"print(1); print(2)", "print(3)", "4"}, "1 2 = undefined | 3 = undefined | = 4", ""}, {[]string{"\"use strict\"; 1", "with ({}) 2", "a = 3", "\"use strict\"; b = 3"}, "= 1 | = 2 | = 3 | ! 'ReferenceError'", "a=3"}, {[]string{"this", "\"use strict\"; this"}, "= #0 | = #0", ""},
		{[]string{"delete print", "print(1)"}, "= true | ! 'ReferenceError'", ""}, {[]string{"print = 5", "var print; print", "delete print; print = 6"}, "= 5 | = 5 | = 6", "print=6"},
		// They stop behind the one that ends with ErrSteps or ErrFull.
		{[]string{"var a = 1", "var b = 1; while (true) {}", "var c = 1"}, "= undefined | code 6", "a=1 b=1"}, {[]string{"var a = 1", "var b = 1; while (true) ({})", "var c = 1"}, "= undefined | code 7", "a=1 b=1"}, {[]string{"print(1); while (true) a = 2"}, "1 code 6", "a=2"}, {[]string{"var a = 1", deep, "var c = 1"}, "= undefined | code 7", "a=1"},
		{[]string{"var b, i = 0; while (i < 300) { i = i + 1; b = {} }", "i = 0; while (i < 96) { i = i + 1; b = {} }", "b = {}; i = 5", "b = {}; i = 6", "i = 7"}, "= #302 | = #398 | = 5 | code 7", "b=[object] i=5"},
	} {
		wantAll(t, c.texts, allSteps, c.ends, c.globals)
	}
}

// Each program has steps of its own, and lines of its own.
func TestStepsAndLinesOfEachProgram(t *testing.T) {
	lines := "var i = 0; while (i < 70) { i = i + 1; print(i) }"
	alone := impl.Run(lines, allSteps)
	for _, steps := range []int64{alone.Steps, alone.Steps + 1, allSteps} {
		list := impl.RunAll(times(10, lines), steps)
		if len(list) != 10 {
			t.Fatalf("%d ran", len(list))
		}
		for i, out := range list {
			if !reflect.DeepEqual(out, alone) {
				t.Errorf("the program %d with %d steps: got %+v", i, steps, out)
			}
		}
	}
	if list := impl.RunAll(times(10, lines), alone.Steps-1); len(list) != 1 || list[0].Code != impl.ErrSteps || list[0].Steps != alone.Steps-1 || len(list[0].Log) != 60 {
		t.Errorf("got %+v", list)
	}
	list := impl.RunAll([]string{"1", "1; 2", "", "1; 2; 3"}, 5)
	want := []impl.RunOut{{Value: num(1), Steps: 3}, {Value: num(2), Steps: 5}, {Steps: 1}, {Steps: 5, Code: impl.ErrSteps}}
	if !reflect.DeepEqual(list, want) {
		t.Errorf("got %+v", list)
	}
}

func TestGlobals(t *testing.T) {
	for _, c := range [][2]string{
		{"", ""}, {"var a = 4, b", "a=4 b=undefined"}, {"var b, a; c = 1; this.d = null", "b=undefined a=undefined c=1 d=null"}, {"function f() {} var a = f", "f=[object] a=[object]"}, {"this[\"x y\"] = 1; this[\"\"] = 2; this[\"=\"] = 3", "x y=1 =2 ==3"},
		{"eval = 1; print = 2", ""}, {"delete eval; delete print; print = 1; eval = 2", "print=1 eval=2"}, {"var eval, print", ""}, {"a = 1; b = 2; delete a; a = 3", "b=2 a=3"}, {"a = 1; delete a", ""}, {"var a = 1; delete a", "a=1"}, {"var a = -\"x\", b = 1 < 2, c = \"t u\", d = -5, e = this", "a=NaN b=true c=t u d=-5 e=[object]"},
		{"function f(x) { y = x; var z = 1 } f(3)", "f=[object] y=3"}, {"with ({a: 1}) { a = 2; b = 3 }", "b=3"}, {"eval(\"var a = 1\")", "a=1"}, {"\"use strict\"; eval(\"var a = 1\"); var b = 2", "b=2"}, {"for (k in {a: 1, b: 2}) ;", "k=b"}, {"try { throw 1 } catch (e) { a = e }", "a=1"}, {"throw 1; var a = 2", "a=undefined"}, {"a = \"\\n\"", "a=\n"},
	} {
		if got := strings.Join(impl.Globals([]string{c[0]}, allSteps), " "); got != c[1] {
			t.Errorf("%s: got %q, want %q", c[0], got, c[1])
		}
	}
	many := "var i = 0; while (i < 500) { this[i] = i; i = i + 1 }"
	if list := impl.Globals([]string{many}, allSteps); len(list) != 501 || list[0] != "i=500" || list[500] != "499=499" {
		t.Errorf("got %d, %v", len(list), list[:min(3, len(list))])
	}
	text := strings.Repeat("a", 1000)
	if list := impl.Globals([]string{"this[\"" + text + "\"] = \"" + text + "\""}, 99); len(list) != 1 || list[0] != text+"="+text {
		t.Errorf("got %v", list)
	}
}

// wantApart tells whether memory of the one text is that of another one.
func wantApart(t *testing.T, what string, texts ...string) {
	t.Helper()
	for i, a := range texts {
		for _, b := range texts[:i] {
			if a == "" || b == "" {
				continue
			}
			p, q := uintptr(unsafe.Pointer(unsafe.StringData(a))), uintptr(unsafe.Pointer(unsafe.StringData(b)))
			if p < q+uintptr(len(b)) && q < p+uintptr(len(a)) {
				t.Errorf("%s: %.60q and %.60q share memory", what, a, b)
			}
		}
	}
}

func TestRunsShareNothing(t *testing.T) {
	texts := []string{"var s = \"first text\"; print(s); print(s); s", "print(s); throw s", "print(s + \"\"); s + \"\"", "s", "s", "throw s", "throw s"}
	whole := slices.Clone(texts)
	for i := range texts {
		texts[i] = strings.Clone(texts[i])
	}
	list := impl.RunAll(texts, 99)
	if len(list) != 7 || endOf(list[0]) != "first text first text = 'first text'" || endOf(list[1]) != "first text ! 'first text'" || endOf(list[2]) != "first text = 'first text'" {
		t.Fatalf("got %+v", list)
	}
	told := slices.Clone(texts)
	for _, out := range list {
		told = append(append(told, out.Log...), out.Value.Text)
	}
	wantApart(t, "RunAll", told...)
	wantApart(t, "Globals", append(slices.Clone(texts), impl.Globals(texts, 99)...)...)
	wantApart(t, "Globals", append([]string{"this[\"the key\"] = \"the text\""}, impl.Globals([]string{"this[\"the key\"] = \"the text\""}, 99)...)...)
	one := impl.Run(texts[0], 99)
	wantApart(t, "Run", texts[0], one.Log[0], one.Log[1], one.Value.Text)
	if !slices.Equal(texts, whole) {
		t.Errorf("the texts became %q", texts)
	}
	// What is appended to one Log is not seen in another.
	logs := impl.RunAll([]string{"print(1)", "print(2)", "print(3)"}, 99)
	for i := range logs {
		_ = append(logs[i].Log, "x")
		logs[i].Log[0] = "y"
		for j := i + 1; j < len(logs); j++ {
			if logs[j].Log[0] != decimal(j+1) {
				t.Errorf("the Log %d is changed with the Log %d", j, i)
			}
		}
	}
}

func TestRunsWriteIntoNothing(t *testing.T) {
	spare := []string{"var a = 1", "a", "SPARE", "SPARE"}
	impl.RunAll(spare[:2], 99)
	impl.Globals(spare[:2], 99)
	if !slices.Equal(spare, []string{"var a = 1", "a", "SPARE", "SPARE"}) {
		t.Errorf("the list became %q", spare)
	}
}

func TestNothingIsKeptBetweenRuns(t *testing.T) {
	texts := []string{
		"var a = 1; b = 2; print(3); function f() {} f.prototype", "typeof a + typeof b + typeof f", "delete print; delete eval", "print(typeof eval); ({})", "while (true) ({})", "while (true) {}", "function f() { f() } f()", "throw 1", "print.a = 1; eval.b = 2", "print(print.a); eval.b",
	}
	first := map[string]impl.RunOut{}
	for round := range 3 {
		for i := range texts {
			text := texts[(i*7+round)%len(texts)]
			out := impl.Run(text, 2000)
			if old, has := first[text]; has && !reflect.DeepEqual(old, out) {
				t.Errorf("%s: first %+v, then %+v", text, old, out)
			}
			first[text] = out
			impl.Globals([]string{text}, 2000)
			impl.RunAll(times(3, text), 2000)
		}
	}
	if got := endOf(first[texts[1]]); got != "= 'undefinedundefinedundefined'" {
		t.Errorf("got %s", got)
	}
	if got := endOf(first[texts[9]]); got != "undefined = undefined" {
		t.Errorf("got %s", got)
	}
}
