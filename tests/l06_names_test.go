package tests

import (
	"reflect"
	"slices"
	"strings"
	"testing"
	"unsafe"

	"loop.example/g00317/impl"
)

// treeOf is what is read of a text that must be read.
func treeOf(t *testing.T, text string) impl.Node {
	t.Helper()
	out := impl.ScriptRead(text)
	if out.Code != impl.OK {
		t.Fatalf("%q is not read: %+v", text, out)
	}
	return out.Node
}

// wantNames holds NamesOf against names with blanks between.
func wantNames(t *testing.T, n impl.Node, want string) {
	t.Helper()
	if got := impl.NamesOf(n); !slices.Equal(got, strings.Fields(want)) {
		t.Errorf("NamesOf %.300q: got %.300v, want %.300v", impl.Show(program(n)), got, want)
	}
}

// wantNamesOfBody asks for the names of a body as those of a program, of a
// statement and of an expression, loose and strict.
func wantNamesOfBody(t *testing.T, body string, want string) {
	t.Helper()
	ahead := "x arguments "
	wantNames(t, treeOf(t, body), want)
	wantNames(t, treeOf(t, "function f(x) {"+body+"}").Kids[0], ahead+want)
	wantNames(t, treeOf(t, "(function (x) {"+body+"})").Kids[0].Kids[0], ahead+want)
	if strings.Contains(body, "with") {
		return
	}
	wantNames(t, treeOf(t, "\"use strict\";"+body), want)
	wantNames(t, treeOf(t, "function f(x) {\"use strict\";"+body+"}").Kids[0], ahead+want)
	wantNames(t, treeOf(t, "\"use strict\"; (function (x) {"+body+"})").Kids[0].Kids[0], ahead+want)
}

func TestNamesOfParameters(t *testing.T) {
	for _, c := range [][2]string{
		{"", "arguments"}, {"a", "a arguments"}, {"a, b", "a b arguments"}, {"b, a", "b a arguments"},
		{"a, a", "a arguments"}, {"a, b, a", "a b arguments"}, {"a, b, b, a, c", "a b c arguments"},
		{"arguments", "arguments"}, {"a, arguments", "a arguments"}, {"arguments, a", "arguments a"},
		{"arguments, a, arguments", "arguments a"}, {"eval, f, $, _1", "eval f $ _1 arguments"}, {"argument", "argument arguments"},
	} {
		wantNames(t, treeOf(t, "function f("+c[0]+") {}").Kids[0], c[1])
		wantNames(t, treeOf(t, "(function ("+c[0]+") {})").Kids[0].Kids[0], c[1])
		wantNames(t, treeOf(t, "function f("+c[0]+") { var y }").Kids[0], c[1]+" y")
	}
}

func TestNamesOfBodies(t *testing.T) {
	for _, c := range [][2]string{
		{"", ""}, {"x; y = 1; z(w); delete v.u; throw t", ""}, {"y", ""},
		{"var a", "a"}, {"var a = 1", "a"}, {"var a = b, c, d = e", "a c d"}, {"var c, b, a", "c b a"},
		{"function g() {}", "g"}, {"function g() {} function h() {}", "g h"},
		{"for (var k in o) {}", "k"}, {"for (k in o) {}", ""}, {"for (k in o) var m", "m"}, {"for (var k in o) { var m }", "k m"},
		{"var a; function b() {} for (var c in d) {} var e", "a b c e"},
		{"for (var c in d) {} function b() {} var a", "c b a"}, {"c; a = 1; var b; var a; function c() {}", "b a c"},
		{"try {} catch (e) {}", ""}, {"({a: 1, \"b\": 2}); c.d; e[f]; typeof g; h ? i : j", ""},
		{"var a = 1; var a; var a, a", "a"}, {"function g() {} function g() {}", "g"}, {"var a; function a() {}", "a"},
		{"function a() {} var b, a = 1; for (var b in a) {} for (var c in a) {} function c() {}", "a b c"},
		{"for (var k in a) for (var j in b) for (var k in c) var j, i", "k j i"}, {"try {} catch (e) { var e, d }", "e d"},
	} {
		wantNamesOfBody(t, c[0], c[1])
	}
}

// What is among the names already does not come again, wherever it is named.
func TestNamesOfParametersThatAreNamedAgain(t *testing.T) {
	for _, c := range [][2]string{
		{"function f(a, b) { var b; function a() {} var c; for (var a in b) {} }", "a b arguments c"},
		{"function f(a) { var arguments = 1; function arguments() {} for (var arguments in a) {} var c }", "a arguments c"},
		{"function f(a, arguments) { var arguments, a, b }", "a arguments b"},
		{"function f() { var f; function g() {} }", "arguments f g"}, {"function f() {}", "arguments"},
		{"function f(f) { function f() {} }", "f arguments"},
	} {
		wantNames(t, treeOf(t, c[0]).Kids[0], c[1])
	}
	wantNames(t, treeOf(t, "var arguments; function eval() {} for (var f in a) {}"), "arguments eval f")
	wantNames(t, treeOf(t, "var b; function f(a) { var c } var a"), "b f a")
}

func TestNamesWithinStatements(t *testing.T) {
	for _, part := range []string{
		"{ @ }", "{{ ; @ }}", "if (o) { @ }", "if (o) {} else { @ }", "if (o) ; else if (o) { @ }", "while (o) { @ }",
		"for (k in o) { @ }", "with (o) { @ }", "with (o) with (o) { @ }", "try { @ } catch (e) {}", "try {} catch (e) { @ }",
		"try { @ } finally {}", "try {} finally { @ }", "try { @ } catch (e) {} finally {}", "try {} catch (e) { @ } finally {}",
		"try {} catch (e) {} finally { @ }", "if (o) while (o) for (k in o) try {} catch (e) {{ @ }}",
	} {
		for _, c := range [][2]string{
			{"var b", "a b c"}, {"var b = 1, a, d", "a b d c"}, {"for (var b in o) ;", "a b c"}, {"for (b in o) ;", "a c"},
			{"for (var b in o) { var d; for (var e in o) ; }", "a b d e c"}, {"o = function (b) { var d }", "a c"},
		} {
			body := "var a;" + strings.ReplaceAll(part, "@", c[0]) + "; var c"
			wantNamesOfBody(t, body, c[1])
			wantNamesOfBody(t, strings.ReplaceAll(part, "@", "var a;"+c[0]+"; var c"), c[1])
		}
	}
	wantNamesOfBody(t, "var a; if (o) { var b } else { var c } function d() {} while (o) for (var e in o) var f; try { var g } catch (h) { var i } finally { var j }",
		"a b c d e f g i j")
}

func TestNamesWithinFunctionsAreNotAmongThem(t *testing.T) {
	const inner = "(p, q) { var v = 1, w; function s() {} for (var k in o) { var u } if (o) var r }"
	for _, c := range [][2]string{
		{"function g" + inner, "g"}, {"(function " + inner + ")", ""}, {"var a = function " + inner + ", b", "a b"},
		{"o(function " + inner + ", 1)", ""}, {"new o(function " + inner + ")", ""}, {"o[function " + inner + "] = 1", ""},
		{"o = {a: function " + inner + "}", ""}, {"if (function " + inner + ") var a", "a"}, {"while (function " + inner + ") var a", "a"},
		{"for (var a in function " + inner + ") var b", "a b"}, {"with (function " + inner + ") var a", "a"}, {"throw function " + inner, ""},
		{"!function " + inner, ""}, {"o ? function " + inner + " : function " + inner, ""}, {"o + function " + inner, ""},
		{"(function " + inner + ")()", ""}, {"(function " + inner + ").a", ""},
		{"function g() { function h" + inner + " return function " + inner + "}", "g"},
	} {
		wantNamesOfBody(t, c[0], c[1])
		wantNamesOfBody(t, "var z;"+c[0]+"; var y", strings.TrimSpace("z "+c[1])+" y")
	}
	wantNames(t, treeOf(t, "function f(a) { return function (b) { var c } }").Kids[0].Kids[0].Kids[0], "b arguments c")
}

// ofKind has in it all that would count in a function.
func ofKind(kind int64) impl.Node {
	kids := []impl.Node{named(impl.SVar, "", []string{"b"}, call(nameNode("eval"))), named(impl.SFunc, "g", nil), numbered(impl.SFor, "k", 1, a, block()), ask(call(nameNode("eval")))}
	return impl.Node{Kind: kind, Text: "eval", Num: 1, Names: []string{"a"}, Kids: kids}
}

func TestNothingIsToldOfOtherKinds(t *testing.T) {
	kinds := []int64{1 << 32, impl.NFunc + 1<<32, impl.NProgram - 1<<32, 1<<63 - 1, -1 << 63}
	for kind := int64(-41); kind <= 100; kind++ {
		kinds = append(kinds, kind)
	}
	for _, kind := range kinds {
		switch kind {
		case impl.NFunc, impl.SFunc:
			wantNames(t, ofKind(kind), "a arguments b g k")
			wantEval(t, ofKind(kind), true)
		case impl.NProgram:
			wantNames(t, ofKind(kind), "b g k")
			wantEval(t, ofKind(kind), true)
		default:
			wantNames(t, ofKind(kind), "")
			wantEval(t, ofKind(kind), false)
		}
	}
	for _, p := range allSamples() {
		if n := p.node(); n.Kind != impl.NFunc && n.Kind != impl.SFunc {
			wantNames(t, n, "")
			wantEval(t, n, false)
		}
	}
	wantNames(t, call(nameNode("eval")), "")
	wantEval(t, call(nameNode("eval")), false)
	wantEval(t, ask(call(nameNode("eval"))), false)
	wantNames(t, impl.Node{}, "")
	wantEval(t, impl.Node{}, false)
}

func wantEval(t *testing.T, n impl.Node, want bool) {
	t.Helper()
	if impl.CallsEval(n) != want {
		t.Errorf("CallsEval is not %v of %.300q, %.300v", want, impl.Show(program(n)), n)
	}
}

// wantEvalOfBody asks of a program, of a statement and of an expression, and of
// what has these in it.
func wantEvalOfBody(t *testing.T, body string, want bool) {
	t.Helper()
	wantEval(t, treeOf(t, body), want)
	statement := treeOf(t, "function f(a) {"+body+"}")
	wantEval(t, statement.Kids[0], want)
	wantEval(t, statement, false)
	expression := treeOf(t, "(function (a) {"+body+"})")
	wantEval(t, expression.Kids[0].Kids[0], want)
	wantEval(t, expression, false)
	if !strings.Contains(body, "with") && !strings.Contains(body, "delete eval") {
		wantEval(t, treeOf(t, "\"use strict\";"+body), want)
		wantEval(t, treeOf(t, "function f(a) {\"use strict\";"+body+"}").Kids[0], want)
	}
}

func TestCallsEval(t *testing.T) {
	for _, call := range []string{
		"eval()", "eval(a)", "eval(\"1\", 2)", "(eval)(a)", "((eval))()", "eval(eval)", "eval()()", "eval().a", "eval()[0]", "eval(f)(g)",
		"a(eval())", "a(1, eval(b), 2)", "a(b(eval()))", "a[eval()]", "a[eval()].b", "new a(eval())", "new (a[eval()])()", "{a: 1, \"b\": eval()}.a",
		"!eval()", "-eval()", "typeof eval()", "delete eval().a", "eval() + 1", "1 in eval()", "a && eval()", "a ? eval() : 1", "a ? 1 : eval()",
		"eval() ? 1 : 1", "a = eval()", "a[eval()] = 1", "eval().b = 1", "a = b = eval()", "eval(function () {})",
	} {
		wantEvalOfBody(t, "("+call+")", true)
		wantEvalOfBody(t, "var x = "+call, true)
		wantEvalOfBody(t, "a; var x, y = 1, z = "+call+", w; b", true)
	}
	for _, other := range []string{
		"eval", "typeof eval", "a = eval", "a(eval)", "a(b, eval)", "new eval()", "new eval(a)", "eval.a", "eval.a()", "eval[0]()", "a.eval()", "a.eval",
		"a[\"eval\"]()", "this.eval(\"1\")", "eval.eval()", "Eval()", "eval1()", "a(\"eval()\")", "\"eval\"()", "a(1, 2)", "{eval: 1}", "{eval: a()}.eval()",
		"(function () {})()", "(a ? eval : b)()", "(a || eval)()", "(0 + eval)()", "!eval", "evals(eval)", "new eval.b()", "new a(eval)", "delete eval",
	} {
		wantEvalOfBody(t, "("+other+")", false)
	}
}

func TestCallsEvalWithinStatements(t *testing.T) {
	for _, part := range []string{
		"{ @ }", "if (@) {}", "if (o) { @ }", "if (o) {} else { @ }", "while (@) {}", "while (o) { @ }", "for (k in @) {}", "for (var k in @) {}", "for (k in o) { @ }",
		"with (@) {}", "with (o) { @ }", "throw @", "try { @ } catch (e) {}", "try {} catch (e) { @ }", "try { @ } finally {}", "try {} finally { @ }",
		"try { @ } catch (e) {} finally {}", "try {} catch (e) { @ } finally {}", "try {} catch (e) {} finally { @ }", "; @", "var a = @", "if (o) while (o) {{ @ }}",
	} {
		wantEvalOfBody(t, strings.ReplaceAll(part, "@", "eval(a)"), true)
		wantEvalOfBody(t, strings.ReplaceAll(part, "@", "a(eval(a))"), true)
		wantEvalOfBody(t, strings.ReplaceAll(part, "@", "evil(a)"), false)
		wantEvalOfBody(t, strings.ReplaceAll(part, "@", "(eval)"), false)
		wantEvalOfBody(t, strings.ReplaceAll(part, "@", "(function () { eval(a) })"), false)
		wantEvalOfBody(t, strings.ReplaceAll(part, "@", "(function () { return function () { eval(a) } })"), false)
		wantEvalOfBody(t, strings.ReplaceAll(part, "@", "(function () { eval(a) })(eval(b))"), true)
	}
	wantEval(t, treeOf(t, "function f() { return eval(a) }").Kids[0], true)
	wantEval(t, treeOf(t, "function f() { return function () { return eval(a) } }").Kids[0], false)
	wantEval(t, treeOf(t, "function eval() { eval() }"), false)
	wantEval(t, treeOf(t, "function eval() { } eval()"), true)
	wantEval(t, treeOf(t, "function f(eval) { eval() }").Kids[0], true)
	wantEval(t, treeOf(t, "function f(eval) { }").Kids[0], false)
	wantEval(t, treeOf(t, "function f() { function eval() {} }").Kids[0], false)
	wantEval(t, treeOf(t, "function f() {} function g() { eval() }").Kids[0], false)
}

// Of trees that are not right the same is told, by the words for the right ones.
func TestNamesOfTreesThatAreNotRight(t *testing.T) {
	inner := named(impl.SFunc, "g", []string{"p"}, named(impl.SVar, "", []string{"v"}, impl.Node{}))
	wantNames(t, program(block(inner), inner), "g")
	wantNames(t, program(block(inner)), "")
	wantNames(t, program(ask(inner), function([]string{"a"})), "")
	wantNames(t, named(impl.NFunc, "f", []string{"if", "1", "if"}, named(impl.SVar, "", []string{"@"})), "if 1 arguments @")
	wantNames(t, program(numbered(impl.SFor, "k", 2), numbered(impl.SFor, "j", -1), numbered(impl.SFor, "i", 1)), "i")
	wantNames(t, program(named(impl.SVar, "b", nil), named(impl.SVar, "", []string{"a", "c"})), "a c")
	wantEval(t, program(call(nameNode("eval"))), true)
	wantEval(t, program(tree(impl.NCall, "")), false)
	wantEval(t, program(tree(impl.NCall, "eval")), false)
	wantEval(t, program(tree(impl.NCall, "", textNode("eval"), nameNode("eval"))), false)
	wantEval(t, program(tree(impl.NCall, "", member(a, "eval"))), false)
	wantEval(t, program(impl.Node{Kind: 77, Kids: []impl.Node{call(nameNode("eval"))}}), true)
}

// A list of Kids may stand within itself, or at so many places that they can't be counted.
func TestNamesOfTreesWithoutEnd(t *testing.T) {
	kids := []impl.Node{named(impl.SVar, "", []string{"a"}, impl.Node{}), block(), named(impl.SVar, "", []string{"b"}, impl.Node{})}
	kids[1].Kids = kids
	for _, kind := range []int64{impl.NProgram, impl.NFunc, impl.SFunc} {
		n := impl.Node{Kind: kind, Kids: kids}
		got := impl.NamesOf(n)
		slices.Sort(got)
		if want := []string{"a", "arguments", "b"}; kind != impl.NProgram && !slices.Equal(got, want) || kind == impl.NProgram && len(got) != 2 {
			t.Errorf("a tree within itself has the names %v", got)
		}
		if impl.CallsEval(n) {
			t.Error("a tree within itself calls eval")
		}
	}
	twice := block(named(impl.SVar, "", []string{"b", "a"}, one, one), ask(call(nameNode("eval"))))
	for range 200 {
		twice = block(twice, twice)
	}
	wantNames(t, impl.Node{Kind: impl.NProgram, Kids: []impl.Node{twice, kids[0]}}, "b a")
	if !impl.CallsEval(program(twice)) || impl.CallsEval(function(nil, ask(function(nil, twice)))) {
		t.Error("a tree with like lists does not call eval as it should")
	}
}

func TestNamesOfGreatTrees(t *testing.T) {
	chain := block(named(impl.SVar, "", []string{"a"}, call(nameNode("eval"))))
	for range 1000000 {
		chain = impl.Node{Kind: impl.SBlock, Kids: []impl.Node{chain}}
	}
	n := impl.Node{Kind: impl.NProgram, Kids: []impl.Node{chain}}
	if got := impl.NamesOf(n); len(got) != 1 || got[0] != "a" || !impl.CallsEval(n) {
		t.Errorf("a deep tree has the names %v", got)
	}
	if out := impl.Addresses(n); out.Code != impl.ErrForm || len(out.List) != 0 {
		t.Errorf("a deep tree: %+v", out)
	}
	var names []string
	for i := range 50000 {
		names = append(names, "a"+decimal(i))
	}
	wide := impl.Node{Kind: impl.NFunc, Names: append(names, names...)}
	for _, name := range names {
		wide.Kids = append(wide.Kids, named(impl.SVar, "", []string{name, "b" + name}))
	}
	got := impl.NamesOf(wide)
	if len(got) != 100001 || got[49999] != "a49999" || got[50000] != "arguments" || got[50001] != "ba0" || got[100000] != "ba49999" {
		t.Errorf("a wide tree has %d names", len(got))
	}
}

// roomyTree is n with room behind each list, in which something stands.
func roomyTree(n impl.Node) impl.Node {
	names := make([]string, 0, len(n.Names)+3)
	n.Names = append(names, n.Names...)
	kids := make([]impl.Node, 0, len(n.Kids)+3)
	for _, kid := range n.Kids {
		kids = append(kids, roomyTree(kid))
	}
	n.Kids = kids
	for i := range 3 {
		n.Names[:cap(n.Names)][len(n.Names)+i] = "room"
		n.Kids[:cap(n.Kids)][len(n.Kids)+i] = impl.Node{Kind: 99, Text: "room"}
	}
	return n
}

// wholeTree is all of n with the room behind its lists.
func wholeTree(n impl.Node) impl.Node {
	n.Names = append([]string{}, n.Names[:cap(n.Names)]...)
	var kids []impl.Node
	for _, kid := range n.Kids[:cap(n.Kids)] {
		kids = append(kids, wholeTree(kid))
	}
	n.Kids = kids
	return n
}

// scribbledTree writes over all that n reaches, the room behind its lists, too.
func scribbledTree(n impl.Node) {
	names := n.Names[:cap(n.Names)]
	for i := range names {
		names[i] = "scribble"
	}
	kids := n.Kids[:cap(n.Kids)]
	for i := range kids {
		scribbledTree(kids[i])
		kids[i] = impl.Node{Kind: 98}
	}
}

func TestScopesShareNothing(t *testing.T) {
	const text = "var a = 1, b; function f(c, d, c) { var e = c; for (var k in e) with (a) k; try { eval(a) } catch (x) { return function (y) { return y + x + e } } } for (b in f) {}"
	answers := func(n impl.Node) []any {
		return []any{impl.NamesOf(n), impl.NamesOf(n.Kids[1]), impl.CallsEval(n), impl.CallsEval(n.Kids[1]), impl.Addresses(n)}
	}
	n := roomyTree(treeOf(t, text))
	before := wholeTree(n)
	got, kept := answers(n), answers(n)
	if !reflect.DeepEqual(wholeTree(n), before) {
		t.Error("something is written into what was handed in")
	}
	for _, names := range [][]string{got[0].([]string), got[1].([]string)} {
		_ = append(names, "more")
		for i := range names {
			names[i] = "changed"
		}
	}
	list := got[4].(impl.AddressOut).List
	for i := range list {
		list[i] = impl.Address{Name: "changed", At: 7}
	}
	if !reflect.DeepEqual(wholeTree(n), before) || !reflect.DeepEqual(answers(n), kept) {
		t.Error("a change of the answer changes what was handed in, or what is answered next")
	}
	scribbledTree(n)
	if !reflect.DeepEqual(answers(treeOf(t, text)), kept) {
		t.Error("a change of what was handed in changes the answer")
	}
}

func TestNamesAreNewMemory(t *testing.T) {
	n := treeOf(t, "function f(parameter) { var variable = parameter; function inner() {} for (var key in parameter) {} }")
	f := n.Kids[0]
	parts := []string{f.Names[0], "arguments", f.Kids[0].Names[0], f.Kids[1].Text, f.Kids[2].Text}
	for i, name := range impl.NamesOf(f) {
		if name != parts[i] || i != 1 && unsafe.StringData(name) == unsafe.StringData(parts[i]) {
			t.Errorf("%q shares memory with %q", name, parts[i])
		}
	}
	for _, address := range impl.Addresses(n).List {
		for _, part := range append(parts, f.Kids[0].Kids[0].Text, f.Kids[2].Kids[0].Text) {
			if unsafe.StringData(address.Name) == unsafe.StringData(part) {
				t.Errorf("the Name %q shares memory with the tree", address.Name)
			}
		}
	}
}
