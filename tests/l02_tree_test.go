package tests

import (
	"reflect"
	"strings"
	"testing"

	"loop.example/g00317/impl"
)

func tree(kind int64, text string, kids ...impl.Node) impl.Node {
	return impl.Node{Kind: kind, Text: text, Kids: kids}
}

func numNode(n int64) impl.Node {
	return impl.Node{Kind: impl.NNum, Num: n}
}

func nameNode(text string) impl.Node {
	return tree(impl.NName, text)
}

func program(kids ...impl.Node) impl.Node {
	return tree(impl.NProgram, "", kids...)
}

func block(kids ...impl.Node) impl.Node {
	return tree(impl.SBlock, "", kids...)
}

func ask(kid impl.Node) impl.Node {
	return tree(impl.SExpr, "", kid)
}

func named(kind int64, text string, names []string, kids ...impl.Node) impl.Node {
	return impl.Node{Kind: kind, Text: text, Names: names, Kids: kids}
}

func numbered(kind int64, text string, num int64, kids ...impl.Node) impl.Node {
	return impl.Node{Kind: kind, Text: text, Num: num, Kids: kids}
}

func strict(n impl.Node) impl.Node {
	n.Strict = true
	return n
}

func wantShown(t *testing.T, n impl.Node, want string) {
	t.Helper()
	before := copied(n)
	if got := impl.Show(n); got != want {
		t.Errorf("Show: got %.300q, want %.300q", got, want)
	}
	if !reflect.DeepEqual(n, before) {
		t.Errorf("Show has changed %+v to %+v", before, n)
	}
}

func copied(n impl.Node) impl.Node {
	if n.Names != nil {
		n.Names = append([]string{}, n.Names...)
	}
	if n.Kids != nil {
		kids := make([]impl.Node, len(n.Kids))
		for i, kid := range n.Kids {
			kids[i] = copied(kid)
		}
		n.Kids = kids
	}
	return n
}

// sample is a Node of a kind, and how it is shown.
type sample struct {
	node impl.Node
	text string
}

var (
	a   = nameNode("a")
	b   = nameNode("b")
	one = numNode(1)
)

func expressionSamples() []sample {
	return []sample{
		{numNode(0), `0`},
		{numNode(12), `12`},
		{numNode(999999999999999), `999999999999999`},
		{tree(impl.NText, "a \"b\"\\\n"), `"a \"b\"\\\n"`},
		{tree(impl.NText, ""), `""`},
		{tree(impl.NText, "use strict"), `"use strict"`},
		{tree(impl.NWord, "true"), `true`},
		{tree(impl.NWord, "false"), `false`},
		{tree(impl.NWord, "null"), `null`},
		{tree(impl.NWord, "undefined"), `undefined`},
		{tree(impl.NWord, "this"), `this`},
		{nameNode("eval"), `eval`},
		{named(impl.NFunc, "", nil), `function () {}`},
		{named(impl.NFunc, "", []string{"a", "b", "a"}, ask(a), tree(impl.SEmpty, "")), `function (a, b, a) {(a);;}`},
		{strict(named(impl.NFunc, "", []string{"x"}, tree(impl.SReturn, "", one))), `function (x) {"use strict";return 1;}`},
		{named(impl.NObject, "", nil), `({})`},
		{named(impl.NObject, "", []string{"a", "", "a", "in\n"}, one, a, b, one), `({"a": 1, "": a, "a": b, "in\n": 1})`},
		{tree(impl.NMember, "x", a), `a.x`},
		{tree(impl.NIndex, "", a, one), `a[1]`},
		{tree(impl.NCall, "", a), `a()`},
		{tree(impl.NCall, "", a, one, b, a), `a(1, b, a)`},
		{tree(impl.NNew, "", a), `(new a())`},
		{tree(impl.NNew, "", a, one, b), `(new a(1, b))`},
		{tree(impl.NUnary, "!", a), `(! a)`},
		{tree(impl.NUnary, "-", one), `(- 1)`},
		{tree(impl.NUnary, "typeof", a), `(typeof a)`},
		{tree(impl.NUnary, "delete", a), `(delete a)`},
		{tree(impl.NCond, "", a, one, b), `(a ? 1 : b)`},
		{tree(impl.NAssign, "", a, one), `(a = 1)`},
		{tree(impl.NAssign, "", tree(impl.NMember, "x", a), b), `(a.x = b)`},
		{tree(impl.NAssign, "", tree(impl.NIndex, "", a, one), tree(impl.NAssign, "", a, b)), `(a[1] = (a = b))`},
	}
}

func TestShowOfExpressions(t *testing.T) {
	for _, s := range expressionSamples() {
		wantShown(t, program(ask(s.node)), "("+s.text+");")
	}
	for _, op := range strings.Fields("=== !== == != <= >= < > in + - * / % && ||") {
		wantShown(t, program(ask(tree(impl.NBinary, op, a, one))), "((a "+op+" 1));")
	}
}

// Of these heads alone a . ( or [ behind them would belong to something else.
func TestHeadsInParentheses(t *testing.T) {
	for _, s := range expressionSamples() {
		head := s.text
		switch s.node.Kind {
		case impl.NNum, impl.NFunc, impl.NObject:
			head = "(" + head + ")"
		}
		wantShown(t, program(ask(tree(impl.NMember, "x", s.node))), "("+head+".x);")
		wantShown(t, program(ask(tree(impl.NIndex, "", s.node, s.node))), "("+head+"["+s.text+"]);")
		wantShown(t, program(ask(tree(impl.NCall, "", s.node, s.node, s.node))), "("+head+"("+s.text+", "+s.text+"));")
		if s.node.Kind != impl.NCall {
			wantShown(t, program(ask(tree(impl.NNew, "", s.node, s.node))), "((new "+head+"("+s.text+")));")
		}
		wantShown(t, program(ask(tree(impl.NUnary, "!", s.node))), "((! "+s.text+"));")
		wantShown(t, program(ask(tree(impl.NBinary, "+", s.node, s.node))), "(("+s.text+" + "+s.text+"));")
	}
}

// What is called behind new would be read as what is made: such a tree is not
// shown, since it could not be read of it.
func TestHeadsOfNewWithCalls(t *testing.T) {
	for _, head := range []impl.Node{
		call(a), call(a, one), call(call(a)), member(call(a), "b"), index(call(a), one), member(index(member(call(a), "b"), one), "c"),
		call(member(a, "b")), member(call(made(a)), "b"), call(function(nil)), index(call(index(a, b)), call(c)),
	} {
		wantShown(t, program(ask(made(head))), "")
		wantShown(t, program(ask(made(head, one))), "")
		wantShown(t, program(ask(call(a, made(head)))), "")
	}
	for _, s := range []sample{
		{index(a, call(b)), `a[b()]`},
		{member(made(a), "b"), `(new a()).b`},
		{binary("+", call(a), call(b)), `(a() + b())`},
		{tree(impl.NUnary, "!", call(a)), `(! a())`},
		{member(binary("||", call(a), b), "c"), `(a() || b).c`},
		{function(nil, ask(call(a))), `(function () {(a());})`},
		{named(impl.NObject, "", []string{"a"}, call(a)), `(({"a": a()}))`},
	} {
		wantShown(t, program(ask(made(s.node, call(a)))), "((new "+s.text+"(a())));")
	}
}

func statementSamples() []sample {
	nothing := impl.Node{}
	return []sample{
		{ask(a), `(a);`},
		{named(impl.SVar, "", []string{"a"}, nothing), `var a;`},
		{named(impl.SVar, "", []string{"a"}, one), `var a = 1;`},
		{named(impl.SVar, "", []string{"a", "b", "a", "c"}, nothing, one, b, nothing), `var a, b = 1, a = b, c;`},
		{named(impl.SFunc, "f", nil), `function f() {}`},
		{named(impl.SFunc, "f", []string{"a", "b"}, tree(impl.SReturn, ""), ask(b)), `function f(a, b) {return;(b);}`},
		{strict(named(impl.SFunc, "f", []string{"a"}, tree(impl.SReturn, "", a))), `function f(a) {"use strict";return a;}`},
		{tree(impl.SIf, "", a, block(ask(b))), `if (a) {(b);}`},
		{tree(impl.SIf, "", a, block()), `if (a) {}`},
		{tree(impl.SIf, "", a, block(ask(b)), block(ask(one))), `if (a) {(b);} else {(1);}`},
		{tree(impl.SIf, "", a, block(block()), block()), `if (a) {{}} else {}`},
		{tree(impl.SWhile, "", a, block(tree(impl.SBreak, ""), tree(impl.SContinue, ""))), `while (a) {break;continue;}`},
		{numbered(impl.SFor, "k", 1, a, block(ask(b))), `for (var k in a) {(b);}`},
		{numbered(impl.SFor, "k", 0, a, block(tree(impl.SContinue, ""))), `for (k in a) {continue;}`},
		{tree(impl.SWith, "", a, block(ask(b))), `with (a) {(b);}`},
		{tree(impl.SThrow, "", a), `throw a;`},
		{numbered(impl.STry, "e", 1, block(ask(a)), block(ask(b))), `try {(a);} catch (e) {(b);}`},
		{numbered(impl.STry, "", 2, block(ask(a)), block(ask(b))), `try {(a);} finally {(b);}`},
		{numbered(impl.STry, "e", 3, block(ask(a)), block(ask(b)), block(ask(one))), `try {(a);} catch (e) {(b);} finally {(1);}`},
		{block(), `{}`},
		{block(ask(a), block(ask(b)), tree(impl.SEmpty, "")), `{(a);{(b);};}`},
		{tree(impl.SEmpty, ""), `;`},
	}
}

func TestShowOfStatements(t *testing.T) {
	wantShown(t, program(), "")
	var all []impl.Node
	var text string
	for _, s := range statementSamples() {
		wantShown(t, program(s.node), s.text)
		all = append(all, s.node)
		text += s.text
	}
	wantShown(t, program(all...), text)
}

func TestStrictBodies(t *testing.T) {
	inner := strict(named(impl.NFunc, "", nil, ask(a)))
	const innerText = `function () {"use strict";(a);}`
	outer := strict(named(impl.SFunc, "f", nil, ask(inner)))
	const outerText = `function f() {"use strict";(` + innerText + `);}`
	wantShown(t, strict(program()), `"use strict";`)
	wantShown(t, strict(program(ask(a), tree(impl.SEmpty, ""))), `"use strict";(a);;`)
	wantShown(t, strict(program(outer)), `"use strict";`+outerText)
	wantShown(t, program(outer), outerText)
	wantShown(t, program(ask(inner), ask(named(impl.NFunc, "", nil))), `(`+innerText+`);(function () {});`)
	wantShown(t, program(named(impl.SFunc, "f", nil, ask(inner))), `function f() {(`+innerText+`);}`)

	loose := named(impl.NFunc, "", nil)
	wantShown(t, strict(program(ask(loose))), "")
	wantShown(t, strict(program(named(impl.SFunc, "f", nil))), "")
	wantShown(t, program(strict(named(impl.SFunc, "f", nil, ask(loose)))), "")
	wantShown(t, program(ask(strict(named(impl.NFunc, "", nil, block(ask(tree(impl.NCall, "", loose))))))), "")
}

// The text alone would make a program strict; a statement of it is shown otherwise.
func TestAStatementThatIsTheTextOfStrict(t *testing.T) {
	text := ask(tree(impl.NText, "use strict"))
	wantShown(t, program(text), `("use strict");`)
	wantShown(t, strict(program(text)), `"use strict";("use strict");`)
	wantShown(t, program(named(impl.SFunc, "f", nil, text)), `function f() {("use strict");}`)
}

func empties(n int) []impl.Node {
	var out []impl.Node
	for range n {
		out = append(out, tree(impl.SEmpty, ""))
	}
	return out
}

func TestShowOfManyNodes(t *testing.T) {
	wantShown(t, program(empties(399)...), strings.Repeat(";", 399))
	wantShown(t, program(empties(400)...), "")
	wantShown(t, program(block(empties(398)...)), "{"+strings.Repeat(";", 398)+"}")
	wantShown(t, program(block(empties(399)...)), "")
	wantShown(t, program(empties(2000)...), "")
}

func TestShowOfManyKids(t *testing.T) {
	var kids []impl.Node
	var names []string
	for range 100 {
		kids, names = append(kids, b), append(names, "b")
	}
	list := strings.Repeat(", b", 100)[2:]
	call := append([]impl.Node{a}, kids...)
	wantShown(t, program(ask(tree(impl.NCall, "", call...))), "(a("+list+"));")
	wantShown(t, program(ask(tree(impl.NNew, "", call...))), "((new a("+list+")));")
	wantShown(t, program(named(impl.SFunc, "f", names)), "function f("+list+") {}")
	wantShown(t, program(ask(named(impl.NObject, "", names, kids...))), "(({"+strings.Repeat(`, "b": b`, 100)[2:]+"}));")
	wantShown(t, program(named(impl.SVar, "", names, kids...)), "var "+strings.Repeat(", b = b", 100)[2:]+";")
	for range 2000000 {
		names = append(names, "b")
	}
	wantShown(t, program(named(impl.SFunc, "f", names)), "")
}

// A Node that says that there is no value is a Node, too.
func TestNodesOfNoValueAreCounted(t *testing.T) {
	row := named(impl.SVar, "", nil)
	for range 100 {
		row.Names = append(row.Names, "a")
		row.Kids = append(row.Kids, impl.Node{})
	}
	shown := "var a" + strings.Repeat(", a", 99) + ";"
	wantShown(t, program(append(empties(298), row)...), strings.Repeat(";", 298)+shown)
	wantShown(t, program(append(empties(299), row)...), "")
}

func nested(deep int, inmost impl.Node) impl.Node {
	for range deep {
		inmost = block(inmost)
	}
	return program(inmost)
}

func TestShowOfDeepTrees(t *testing.T) {
	wantShown(t, nested(38, block()), strings.Repeat("{", 39)+strings.Repeat("}", 39))
	wantShown(t, nested(39, block()), "")
	wantShown(t, nested(37, ask(a)), strings.Repeat("{", 37)+"(a);"+strings.Repeat("}", 37))
	wantShown(t, nested(38, ask(a)), "")
	novalue := named(impl.SVar, "", []string{"a"}, impl.Node{})
	wantShown(t, nested(37, novalue), strings.Repeat("{", 37)+"var a;"+strings.Repeat("}", 37))
	wantShown(t, nested(38, novalue), "")
	wantShown(t, nested(100000, block()), "")
	unary := a
	for range 37 {
		unary = tree(impl.NUnary, "-", unary)
	}
	wantShown(t, program(ask(unary)), "("+strings.Repeat("(- ", 37)+"a"+strings.Repeat(")", 37)+");")
	wantShown(t, program(ask(tree(impl.NUnary, "-", unary))), "")
	wantShown(t, program(block(), ask(tree(impl.NUnary, "-", unary)), block()), "")
}

func TestShowOfLongTexts(t *testing.T) {
	text := func(n int) impl.Node { return ask(tree(impl.NText, strings.Repeat("x", n))) }
	shown := func(n int) string { return `("` + strings.Repeat("x", n) + `");` }
	wantShown(t, program(text(995), text(995), text(995), text(995)), strings.Repeat(shown(995), 4))
	wantShown(t, program(text(995), text(995), text(995), text(996)), "")
	wantShown(t, program(text(1000), text(1000), text(1000), text(980)), strings.Repeat(shown(1000), 3)+shown(980))
	wantShown(t, program(text(1000), text(1000), text(1000), text(981)), "")
	wantShown(t, program(text(1000)), shown(1000))
	wantShown(t, program(text(1001)), "")

	hidden := ask(tree(impl.NText, strings.Repeat("\"", 1000)))
	wantShown(t, program(hidden), `("`+strings.Repeat(`\"`, 1000)+`");`)
	wantShown(t, program(hidden, hidden), "")
}

func TestShowOfNumbers(t *testing.T) {
	for _, n := range []int64{-1, -999, 1000000000000000, 1 << 62, -1 << 63} {
		wantShown(t, program(ask(numNode(n))), "")
		wantShown(t, program(tree(impl.SThrow, "", numNode(n))), "")
	}
}

func TestShowOfTexts(t *testing.T) {
	for i := range 256 {
		text := "a" + string([]byte{byte(i)})
		shown := impl.Quote(text)
		want := ""
		if i == 10 || i >= 32 && i <= 126 {
			want = "throw " + shown + ";"
		}
		wantShown(t, program(tree(impl.SThrow, "", tree(impl.NText, text))), want)
		if want != "" {
			want = "throw ({" + shown + ": a});"
		}
		wantShown(t, program(tree(impl.SThrow, "", named(impl.NObject, "", []string{text}, a))), want)
	}
	long := strings.Repeat("x", 1000)
	wantShown(t, program(tree(impl.SThrow, "", named(impl.NObject, "", []string{long}, a))), `throw ({"`+long+`": a});`)
	wantShown(t, program(tree(impl.SThrow, "", named(impl.NObject, "", []string{long + "x"}, a))), "")
	wantShown(t, program(tree(impl.SThrow, "", named(impl.NObject, "", []string{"b", "\t"}, a, a))), "")
}

// namedBy has all trees that have a name at one place.
func namedBy(text string) []sample {
	return []sample{
		{program(tree(impl.SThrow, "", nameNode(text))), "throw " + text + ";"},
		{program(tree(impl.SThrow, "", tree(impl.NMember, text, a))), "throw a." + text + ";"},
		{program(tree(impl.SThrow, "", named(impl.NFunc, "", []string{text}))), "throw function (" + text + ") {};"},
		{program(named(impl.SFunc, "f", []string{"a", text})), "function f(a, " + text + ") {}"},
		{program(named(impl.SFunc, text, nil)), "function " + text + "() {}"},
		{program(named(impl.SVar, "", []string{"a", text}, impl.Node{}, a)), "var a, " + text + " = a;"},
		{program(numbered(impl.SFor, text, 1, a, block())), "for (var " + text + " in a) {}"},
		{program(numbered(impl.SFor, text, 0, a, block())), "for (" + text + " in a) {}"},
		{program(numbered(impl.STry, text, 1, block(), block())), "try {} catch (" + text + ") {}"},
		{program(numbered(impl.STry, text, 3, block(), block(), block())), "try {} catch (" + text + ") {} finally {}"},
	}
}

func TestShowOfNames(t *testing.T) {
	for _, text := range []string{"_", "$1", "print", "eval", "arguments", "abcdefghijklmnopqr12"} {
		for _, s := range namedBy(text) {
			wantShown(t, s.node, s.text)
		}
	}
	wrong := append([]string{"", "abcdefghijklmnopqr123", "1a", "a-b", "a b", " a", "a\n", "a;", "\xc3\xa4", "@"}, allWords...)
	for _, text := range wrong {
		for _, s := range namedBy(text) {
			wantShown(t, s.node, "")
		}
	}
}

func TestShowOfWordsAndOperators(t *testing.T) {
	for _, text := range append(append([]string{"", "a", "True", "this ", "0"}, allWords...), allMarks...) {
		if !strings.Contains(" true false null undefined this ", " "+text+" ") {
			wantShown(t, program(tree(impl.SThrow, "", tree(impl.NWord, text))), "")
		}
		if !strings.Contains(" ! - typeof delete ", " "+text+" ") {
			wantShown(t, program(tree(impl.SThrow, "", tree(impl.NUnary, text, a))), "")
		}
		if !strings.Contains(" === !== == != <= >= < > in + - * / % && || ", " "+text+" ") {
			wantShown(t, program(tree(impl.SThrow, "", tree(impl.NBinary, text, a, b))), "")
		}
	}
}
