package tests

import (
	"slices"
	"strings"
	"testing"

	"loop.example/g00317/impl"
)

// addressText is a name, and behind it, if it has a slot, Up and At: a:1.0.
func addressText(a impl.Address) string {
	place := decimal(int(a.Up)) + "." + decimal(int(a.At))
	switch {
	case a.Slot:
		return a.Name + ":" + place
	case place != "0.0":
		return a.Name + " without a slot, but " + place
	}
	return a.Name
}

func addressTexts(list []impl.Address) []string {
	var out []string
	for _, a := range list {
		out = append(out, addressText(a))
	}
	return out
}

// wantAddresses holds the addresses of a script against their texts with blanks between.
func wantAddresses(t *testing.T, text string, want string) {
	t.Helper()
	out := impl.Addresses(treeOf(t, text))
	if got := addressTexts(out.List); out.Code != impl.OK || !slices.Equal(got, strings.Fields(want)) {
		t.Errorf("%s\ngot %d %v, want %v", text, out.Code, got, want)
	}
}

func wantRefused(t *testing.T, what string, n impl.Node) {
	t.Helper()
	if out := impl.Addresses(n); out.Code != impl.ErrForm || len(out.List) != 0 {
		t.Errorf("%s: got %+v", what, out)
	}
}

func TestAddressesOfWhatIsNotRead(t *testing.T) {
	for kind := int64(-1); kind <= 100; kind++ {
		if kind != impl.NProgram {
			wantRefused(t, "Kind "+decimal(int(kind+1)), impl.Node{Kind: kind})
			wantRefused(t, "Kind "+decimal(int(kind+1)), ofKind(kind))
		}
	}
	for _, p := range allSamples() {
		if n := p.node(); n.Kind != impl.NProgram {
			wantRefused(t, "no program", n)
		}
	}
	for what, n := range map[string]impl.Node{
		"a name that is none":      program(ask(nameNode("if"))),
		"a var without names":      program(named(impl.SVar, "", nil)),
		"a program with a name":    tree(impl.NProgram, "a"),
		"a program with Names":     named(impl.NProgram, "", []string{"a"}),
		"a program with a Num":     numbered(impl.NProgram, "", 1),
		"return in no function":    program(tree(impl.SReturn, "")),
		"break in no loop":         program(tree(impl.SBreak, "")),
		"function in a block":      program(block(named(impl.SFunc, "f", nil))),
		"strict with":              strict(program(tree(impl.SWith, "", a, block()))),
		"strict eval":              strict(program(named(impl.SVar, "", []string{"eval"}, one))),
		"like parameters":          program(strict(named(impl.SFunc, "f", []string{"a", "a"}))),
		"loose in strict":          strict(program(named(impl.SFunc, "f", nil))),
		"a call in new":            program(ask(made(call(a)))),
		"an if without a block":    program(tree(impl.SIf, "", a, ask(b))),
		"400 statements":           program(empties(400)...),
		"a tree that is too deep":  nested(50, a),
		"a program in a program":   program(program()),
		"a shown text of 4001 and": program(ask(textNode(strings.Repeat("a", 1000))), ask(textNode(strings.Repeat("a", 1000))), ask(textNode(strings.Repeat("a", 1000))), ask(textNode(strings.Repeat("a", 1000)))),
	} {
		wantRefused(t, what, n)
	}
	wantRefused(t, "what is read, but not shown", treeOf(t, "new (a())()"))
	wantRefused(t, "more than 400 Nodes", treeOf(t, "a"+strings.Repeat(";-a", 149)))
}

func TestAddressesOfSpoiltTrees(t *testing.T) {
	refused := 0
	for _, text := range []string{
		"var a = 1, b; function f(a, c) { with (a) { b } try { eval(c) } catch (e) { e = a } finally { for (var k in a) k } return function () { return c } }",
		"\"use strict\"; (function (a) { for (b in a) { a.b[c] = new D(a, typeof b) } })({a: a, \"b\": c ? d : !e})",
	} {
		for _, p := range allPlaces(treeOf(t, text)) {
			for _, other := range spoilt(p.node()) {
				n := p.with(other)
				shown := impl.Show(n)
				if shown == "" && len(n.Kids) > 0 {
					wantRefused(t, "spoilt", n)
					refused++
				} else if out := impl.Addresses(n); out.Code != impl.OK || !slices.Equal(addressTexts(out.List), modelTexts(n)) {
					t.Errorf("%s: got %+v", shown, out)
				}
			}
			if t.Failed() {
				return
			}
		}
	}
	if refused < 3000 {
		t.Errorf("only %d are refused", refused)
	}
}

func TestAddressesOfPrograms(t *testing.T) {
	for _, c := range [][2]string{
		{"", ""}, {";", ""}, {"1; \"a\"; this; null", ""}, {"\"use strict\"", ""}, {"a", "a"}, {"a; b; a", "a b a"},
		{"var a", ""}, {"var a; a", "a"}, {"var a = 1", "a"}, {"function f() {}", ""}, {"function f() {} f()", "f"},
		{"for (var k in a) k", "k a k"}, {"for (k in a) {}", "k a"}, {"with (a) b", "a b"}, {"arguments; eval(a)", "arguments eval a"},
		{"try { a } catch (e) { b }", "a b"},
	} {
		wantAddresses(t, c[0], c[1])
	}
	if out := impl.Addresses(program()); out.Code != impl.OK || len(out.List) != 0 {
		t.Errorf("of an empty program %+v", out)
	}
	empty := impl.Node{Kind: impl.NProgram, Names: []string{}, Kids: []impl.Node{}}
	if out := impl.Addresses(empty); out.Code != impl.OK || len(out.List) != 0 {
		t.Errorf("of a program with empty lists %+v", out)
	}
}

// What occurs in a text is named a, b, c and so on in its order, all else is named from the end.
func TestTheOrderOfOccurrences(t *testing.T) {
	for _, c := range [][2]string{
		{"var a = b, x, c = d, y, z, e = f + g, w", "a b c d e f g"}, {"var a = b = c, d = 1", "a b c d"},
		{"var a = function (x) { var b = c, y; for (var d in e) f }, g = h", "a b c d e f g h"},
		{"for (a in b) c", "a b c"}, {"for (var a in b) { c; for (d in e) f } g", "a b c d e f g"},
		{"for (a in function (x) { b }) c", "a b c"}, {"for (a in b = c) { var d = e }", "a b c d e"},
		{"a.x; b[c]; d.y.z[e].w; f.g", "a b c d e f"}, {"a(b, c(d), e)(f)", "a b c d e f"}, {"new a(b, c).x(d); new (e[f])(g)", "a b c d e f g"},
		{"!a; -b; typeof c; delete d; delete e.x; delete f[g]", "a b c d e f g"}, {"a + b * c < d && e || f in g", "a b c d e f g"},
		{"a ? b : c ? d : e", "a b c d e"}, {"a = b; c.x = d; e[f] = g = h", "a b c d e f g h"},
		{"(({x: a, \"y\": b, z: {w: c}}).v = d)", "a b c d"}, {"function x(y, z) { a; b } c", "a b c"},
		{"a; function x() { b; function y() { c } d } e", "a b c d e"}, {"a(function () { b }, c, function () { return d })", "a b c d"},
		{"if (a) b; else if (c) { d } else e; while (f) g", "a b c d e f g"}, {"with (a) { b } throw c", "a b c"},
		{"try { a } catch (x) { b } finally { c } try { d } finally { e } try { f } catch (x) { g }", "a b c d e f g"},
		{"{ a; { b } ; c }", "a b c"}, {"function x() { return a } function y() { return } b", "a b"},
		{"function x() { var a = b; while (c) { if (d) break; else continue } }", "a b c d"},
	} {
		if !slices.IsSorted(strings.Fields(c[1])) {
			t.Errorf("%s: what is asked for is not in the order of the text", c[0])
		}
		wantAddressNames(t, c[0], c[1])
	}
}

// wantAddressNames leaves the places of names out.
func wantAddressNames(t *testing.T, text string, want string) {
	t.Helper()
	var got []string
	for _, a := range impl.Addresses(treeOf(t, text)).List {
		got = append(got, a.Name)
	}
	if !slices.Equal(got, strings.Fields(want)) {
		t.Errorf("%s\ngot %v, want %v", text, got, want)
	}
}

func TestNamesOfTheFunction(t *testing.T) {
	for _, c := range [][2]string{
		{"function f(a, b) { a; b; arguments; c; d }", "a:0.0 b:0.1 arguments:0.2 c d"},
		{"function f(a, b, a) { b; a; arguments }", "b:0.1 a:0.0 arguments:0.2"},
		{"function f(a, arguments) { arguments; a; var b; b }", "arguments:0.1 a:0.0 b:0.2"},
		{"function f() { b; var a, b; function c() {} for (var d in a) {} c; f }", "b:0.2 d:0.4 a:0.1 c:0.3 f"},
		{"function f() { f; var f; f }", "f:0.1 f:0.1"}, {"(function (a) { a = 1; a.b; c[a] })", "a:0.0 a:0.0 c a:0.0"},
		{"function f() { var a = a, b = a }", "a:0.1 a:0.1 b:0.2 a:0.1"}, {"function f() { for (var k in k) k; for (k in k) k }", "k:0.1 k:0.1 k:0.1 k:0.1 k:0.1 k:0.1"},
		{"function f() { if (a) { var a = 1 } else b; while (b) for (var b in c) ; }", "a:0.1 a:0.1 b:0.2 b:0.2 b:0.2 c"},
		{"function f(a) { typeof a; delete a; a(); new a() }", "a:0.0 a:0.0 a:0.0 a:0.0"}, {"function f(a) { a.a; b.a; ({a: a}) }", "a:0.0 b a:0.0"},
		{"function f(a) {} a", "a"}, {"var a; function f() { a }", "a"}, {"function f(a) {\"use strict\"; a; arguments; b}", "a:0.0 arguments:0.1 b"},
	} {
		wantAddresses(t, c[0], c[1])
	}
}

func TestNamesOfFunctionsFurtherOut(t *testing.T) {
	for _, c := range [][2]string{
		{"function f(a) { return function (b) { a; b; arguments; c } }", "a:1.0 b:0.0 arguments:0.1 c"},
		{"function f(a) { function g(b) { function h(c) { a; b; c; d; g; h; f } } var d }", "a:2.0 b:1.0 c:0.0 d:2.3 g:2.2 h:1.2 f"},
		{"function f(a) { return function (a) { return function () { a; var a } } }", "a:0.1"},
		{"function f(a) { return function (a) { return function () { a } } }", "a:1.0"},
		{"function f(x, a) { a(function () { var b = function () { a + b } }); a }", "a:0.1 b:0.1 a:2.1 b:1.1 a:0.1"},
		{"function f(a) { for (var k in function () { k = a }) {} }", "k:0.2 k:1.2 a:1.0"},
		{"function f(a) { var b = function () { b(a) } }", "b:0.2 b:1.2 a:1.0"},
		{"function f(a) { a; function g() { a } a }", "a:0.0 a:1.0 a:0.0"},
		{"function f(a) {} function g() { a; f; g }", "a f g"},
	} {
		wantAddresses(t, c[0], c[1])
	}
}

func TestNamesInWith(t *testing.T) {
	for _, c := range [][2]string{
		{"function f(a) { with (a) { a } a }", "a:0.0 a a:0.0"}, {"function f(a) { with (a.b[c]) { a; b; f; arguments } }", "a:0.0 c a b f arguments"},
		{"function f(a) { with (a) { with (a) { a } } }", "a:0.0 a a"}, {"function f(a) { with (a) { var b = a; for (var k in a) k; for (a in b) ; } b; k }", "a:0.0 b a k a k a b b:0.2 k:0.3"},
		{"function f(a) { with (a) { return function (b) { a; b; with (b) b; arguments } } }", "a:0.0 a b:0.0 b:0.0 b arguments:0.1"},
		{"function f(a) { with (function () { a }) { a } }", "a:1.0 a"}, {"function f(a) { return function () { with (a) a; a } }", "a:1.0 a a:1.0"},
		{"function f(a) { with (a) { return function () { var c; return function () { c; a } } } }", "a:0.0 c:1.1 a"},
		{"function f(a) { with (a) if (a) { while (a) a } else { { a } } }", "a:0.0 a a a a"},
	} {
		wantAddresses(t, c[0], c[1])
	}
}

func TestNamesInCatch(t *testing.T) {
	for _, c := range [][2]string{
		{"function f(a) { try { e; a } catch (e) { e; a; b } finally { e; a } e; a }", "e a:0.0 e:0.0 a:1.0 b e a:0.0 e a:0.0"},
		{"function f(e) { try { e } catch (e) { e } finally { e } }", "e:0.0 e:0.0 e:0.0"}, {"function f(x, e) { try { e } catch (e) { e } finally { e } }", "e:0.1 e:0.0 e:0.1"},
		{"function f(x, e) { try { e } finally { e } }", "e:0.1 e:0.1"}, {"function f(x, e) { try { e } catch (d) { e } }", "e:0.1 e:1.1"},
		{"function f(a) { try {} catch (e) { try { e; a } catch (d) { e; d; a } finally { e; d; a } } }", "e:0.0 a:1.0 e:1.0 d:0.0 a:2.0 e:0.0 d a:1.0"},
		{"function f(a) { try {} catch (e) { try {} catch (e) { e; a } e } }", "e:0.0 a:2.0 e:0.0"},
		{"function f(a) { try {} catch (e) { var b = e, e = a; for (var e in e) e; e } e }", "b:1.2 e:0.0 e:0.0 a:1.0 e:0.0 e:0.0 e:0.0 e:0.0 e:0.3"},
		{"function f(a) { try {} catch (e) { return function (b) { e; a; b; f } } }", "e:1.0 a:2.0 b:0.0 f"},
		{"function f(a) { try {} catch (e) { return function (e) { e; a } } }", "e:0.0 a:2.0"},
		{"function f(a) { try { try { a } catch (d) { a } } catch (e) { } }", "a:0.0 a:1.0"},
		{"try { e } catch (e) { e; a } finally { e }", "e e:0.0 a e"}, {"var a; try {} catch (e) { a; e = a }", "a e:0.0 a"},
		{"try {} catch (e) { (function () { e; function g() { e; a } a }) }", "e:1.0 e:2.0 a a"}, {"try {} catch (e) { try {} catch (d) { e; d; a } }", "e:1.0 d:0.0 a"},
		{"try {} catch (e) { (function (e) { e }); (function () { try { e } catch (d) { e } }) }", "e:0.0 e:1.0 e:2.0"},
		{"\"use strict\"; try {} catch (e) { (function (a) { a + e }) }", "a:0.0 e:1.0"},
	} {
		wantAddresses(t, c[0], c[1])
	}
}

func TestNamesInWithAndCatch(t *testing.T) {
	for _, c := range [][2]string{
		{"function f(a) { try {} catch (e) { with (e) { e; a } } }", "e:0.0 e a"}, {"function f(a) { try {} catch (e) { with (a) { e } e } }", "a:1.0 e e:0.0"},
		{"function f(a) { with (a) { try { a } catch (e) { e; a } finally { e } } }", "a:0.0 a e:0.0 a e"}, {"with (a) { try {} catch (e) { e; a } }", "a e:0.0 a"},
		{"try {} catch (e) { with (e) { e } }", "e:0.0 e"}, {"with (a) { try {} catch (e) { (function (b) { e; b; a }) } }", "a e:1.0 b:0.0 a"},
		{"try {} catch (e) { with (e) { (function (b) { e; b }) } }", "e:0.0 e b:0.0"}, {"try {} catch (e) { with (e) { try {} catch (d) { d; e } } }", "e:0.0 d:0.0 e"},
		{"try {} catch (e) { (function () { with (e) { try {} catch (d) { d; e } } }) }", "e:1.0 d:0.0 e"},
	} {
		wantAddresses(t, c[0], c[1])
	}
}

func TestNamesThroughEval(t *testing.T) {
	for _, c := range [][2]string{
		{"function f(a) { eval(a); b; arguments }", "eval a:0.0 b arguments:0.1"},
		{"function f(a) { return function (b) { eval(b); a; b } }", "eval b:0.0 a b:0.0"},
		{"function f(a) { return function (b) { \"use strict\"; eval(b); a; b; c } }", "eval b:0.0 a:1.0 b:0.0 c"},
		{"function f(a) { \"use strict\"; return function (b) { eval(b); a } }", "eval b:0.0 a:1.0"},
		{"function f(a) { eval(a); return function (b) { a; b; c } }", "eval a:0.0 a:1.0 b:0.0 c"},
		{"function f(x) { return function (a) { eval(a); return function (b) { a; b; x } } }", "eval a:0.0 a:1.0 b:0.0 x"},
		{"function f(x) { return function (a) { \"use strict\"; eval(a); return function (b) { a; b; x } } }", "eval a:0.0 a:1.0 b:0.0 x:2.0"},
		{"function f(x) { return function (a) { x; return function (b) { eval(b); a } } }", "x:1.0 eval b:0.0 a"},
		{"function f(x) { return function (a) { x; (function () { eval(1) }); x } }", "x:1.0 eval x:1.0"},
		{"function f(x) { return function (a) { x; a.eval(1); new eval(); x } }", "x:1.0 a:0.0 eval x:1.0"},
		{"function f(x) { return function (eval) { eval(1); x } }", "eval:0.0 x"}, {"function f(eval) { return function () { eval(1) } }", "eval"},
		{"function f(eval) { return function () { \"use strict\"; eval(1) } }", "eval:1.0"}, {"function f(eval) { return function () { return eval } }", "eval:1.0"},
		{"eval(a); function f(b) { b; c; return function () { b } }", "eval a b:0.0 c b:1.0"},
		{"eval(a); try {} catch (e) { e; eval(e); (function () { e }) }", "eval a e:0.0 eval e:0.0 e:1.0"},
		{"try {} catch (e) { (function (a) { eval(a); e }) }", "eval a:0.0 e"}, {"try {} catch (e) { (function (a) { \"use strict\"; eval(a); e }) }", "eval a:0.0 e:1.0"},
		{"function f(x) { try { eval(x) } catch (e) { e; x; y } }", "eval x:0.0 e:0.0 x:1.0 y"},
		{"function f(x) { return function () { try {} catch (e) { eval(e); e; x } x } }", "eval e:0.0 e:0.0 x x"},
		{"function f(x) { with (x) { eval(x) } x; return function () { x } }", "x:0.0 eval x x:0.0 x:1.0"},
	} {
		wantAddresses(t, c[0], c[1])
	}
}
