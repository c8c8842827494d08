package tests

import (
	"strings"
	"testing"

	"loop.example/g00317/impl"
)

func wantRead(t *testing.T, text string, want impl.Node) {
	t.Helper()
	got := impl.ScriptRead(text)
	if got.Code != impl.OK || got.At != 0 || !impl.NodeSame(got.Node, want) {
		t.Errorf("ScriptRead(%.300q):\n got %+v\nwant %+v", text, got, want)
	}
}

// wantReadAs holds what is read against what another text is read as.
func wantReadAs(t *testing.T, text string, other string) {
	t.Helper()
	want := impl.ScriptRead(other)
	if want.Code != impl.OK {
		t.Errorf("ScriptRead(%.300q): got %+v", other, want)
	}
	wantRead(t, text, want.Node)
}

func binary(op string, x impl.Node, y impl.Node) impl.Node {
	return tree(impl.NBinary, op, x, y)
}

func member(head impl.Node, text string) impl.Node {
	return tree(impl.NMember, text, head)
}

func index(head impl.Node, key impl.Node) impl.Node {
	return tree(impl.NIndex, "", head, key)
}

func call(head impl.Node, list ...impl.Node) impl.Node {
	return tree(impl.NCall, "", append([]impl.Node{head}, list...)...)
}

func made(head impl.Node, list ...impl.Node) impl.Node {
	return tree(impl.NNew, "", append([]impl.Node{head}, list...)...)
}

func textNode(text string) impl.Node {
	return tree(impl.NText, text)
}

func function(names []string, kids ...impl.Node) impl.Node {
	return named(impl.NFunc, "", names, kids...)
}

var c = nameNode("c")

func TestReadOfNothing(t *testing.T) {
	for _, text := range []string{"", " ", "\n", "// a", "\t// a\n\n"} {
		wantRead(t, text, program())
	}
}

// expressionTexts has expressions as they may be written, without what would
// make a statement of them.
func expressionTexts() []sample {
	object := func(names ...string) impl.Node {
		n := named(impl.NObject, "", names)
		for range names {
			n.Kids = append(n.Kids, one)
		}
		return n
	}
	return []sample{
		{numNode(0), `0`},
		{numNode(999999999999999), `999999999999999`},
		{textNode(""), `""`},
		{textNode("a\n\"\\"), `"a\n\"\\"`},
		{textNode(strings.Repeat("x", 1001)), `"` + strings.Repeat("x", 1001) + `"`},
		{tree(impl.NWord, "true"), `true`},
		{tree(impl.NWord, "false"), `false`},
		{tree(impl.NWord, "null"), `null`},
		{tree(impl.NWord, "undefined"), `undefined`},
		{tree(impl.NWord, "this"), `this`},
		{a, `a`},
		{nameNode("eval"), `eval`},
		{nameNode("arguments"), `arguments`},
		{a, `(a)`},
		{a, `(((a)))`},
		{function(nil), `function(){}`},
		{function([]string{"a"}), `function (a) {}`},
		{function([]string{"a", "b", "a"}, tree(impl.SReturn, "", a)), `function (a, b, a) { return a }`},
		{function([]string{"eval", "arguments"}), `function (eval, arguments) {}`},
		{object(), `{}`},
		{object("a"), `{a: 1}`},
		{object("a", "b c", "", "a", "if"), `{a: 1, "b c": 1, "": 1, "a": 1, "if": 1}`},
		{named(impl.NObject, "", []string{"a"}, object("b")), `{a: {b: 1}}`},
		{named(impl.NObject, "", []string{"a", "b"}, tree(impl.NAssign, "", a, b), c), `{a: a = b, b: c}`},
		{member(a, "b"), `a.b`},
		{member(member(a, "b"), "eval"), `a.b.eval`},
		{member(one, "b"), `1.b`},
		{member(textNode("a"), "length"), `"a".length`},
		{member(tree(impl.NWord, "this"), "a"), `this.a`},
		{member(object("a"), "a"), `{a: 1}.a`},
		{index(a, b), `a[b]`},
		{index(index(a, b), tree(impl.NAssign, "", b, c)), `a[b][b = c]`},
		{call(a), `a()`},
		{call(a, one), `a(1)`},
		{call(a, one, tree(impl.NAssign, "", a, b), tree(impl.NCond, "", a, b, c)), `a(1, a = b, a ? b : c)`},
		{call(call(call(a), b), c), `a()(b)(c)`},
		{call(function(nil)), `function () {}()`},
		{call(index(member(call(a, b), "x"), one), c), `a(b).x[1](c)`},
		{member(call(index(a, b)), "c"), `a[b]().c`},
		{made(a), `new a()`},
		{made(a, one, b), `new a(1, b)`},
		{made(member(index(member(a, "b"), c), "x"), one), `new a.b[c].x(1)`},
		{made(index(a, call(b))), `new a[b()]()`},
		{made(call(a)), `new (a())()`},
		{made(member(call(a), "b")), `new (a()).b()`},
		{made(member(call(a), "b")), `new (a().b)()`},
		{made(made(a)), `new (new a())()`},
		{made(function(nil)), `new function () {}()`},
		{made(object("a")), `new {a: 1}()`},
		{made(one), `new 1()`},
		{made(tree(impl.NWord, "this")), `new this()`},
		{member(made(a), "b"), `new a().b`},
		{index(made(a), b), `new a()[b]`},
		{call(made(a)), `new a()()`},
		{call(member(call(made(a, b), c), "x"), one), `new a(b)(c).x(1)`},
		{tree(impl.NUnary, "!", a), `!a`},
		{tree(impl.NUnary, "-", one), `-1`},
		{tree(impl.NUnary, "-", tree(impl.NUnary, "-", one)), `--1`},
		{tree(impl.NUnary, "typeof", a), `typeof a`},
		{tree(impl.NUnary, "delete", a), `delete a`},
		{tree(impl.NUnary, "delete", a), `delete (a)`},
		{tree(impl.NUnary, "delete", member(a, "b")), `delete a.b`},
		{tree(impl.NUnary, "!", tree(impl.NUnary, "-", tree(impl.NUnary, "typeof", tree(impl.NUnary, "delete", call(a))))), `!-typeof delete a()`},
		{tree(impl.NUnary, "-", made(a)), `-new a()`},
		{binary("+", a, b), `a + b`},
		{binary("in", a, b), `a in b`},
		{tree(impl.NCond, "", a, b, c), `a ? b : c`},
		{tree(impl.NCond, "", a, b, tree(impl.NCond, "", b, c, one)), `a ? b : b ? c : 1`},
		{tree(impl.NCond, "", a, tree(impl.NCond, "", b, c, one), a), `a ? b ? c : 1 : a`},
		{tree(impl.NCond, "", tree(impl.NCond, "", a, b, c), a, b), `(a ? b : c) ? a : b`},
		{tree(impl.NCond, "", a, tree(impl.NAssign, "", b, one), tree(impl.NAssign, "", c, one)), `a ? b = 1 : c = 1`},
		{tree(impl.NCond, "", binary("||", a, b), b, c), `a || b ? b : c`},
		{tree(impl.NAssign, "", a, one), `a = 1`},
		{tree(impl.NAssign, "", a, tree(impl.NAssign, "", b, c)), `a = b = c`},
		{tree(impl.NAssign, "", a, tree(impl.NCond, "", a, b, c)), `a = a ? b : c`},
		{tree(impl.NAssign, "", a, one), `(a) = 1`},
		{tree(impl.NAssign, "", member(a, "b"), one), `a.b = 1`},
		{tree(impl.NAssign, "", member(a, "b"), one), `(a.b) = 1`},
		{tree(impl.NAssign, "", index(call(a), b), one), `a()[b] = 1`},
		{tree(impl.NAssign, "", member(made(a), "b"), one), `new a().b = 1`},
		{tree(impl.NAssign, "", nameNode("eval"), one), `eval = 1`},
		{tree(impl.NAssign, "", nameNode("arguments"), one), `arguments = 1`},
	}
}

func TestReadOfExpressions(t *testing.T) {
	for _, s := range expressionTexts() {
		wantRead(t, "("+s.text+")", program(ask(s.node)))
		wantRead(t, "("+s.text+");", program(ask(s.node)))
		wantRead(t, "throw "+s.text, program(tree(impl.SThrow, "", s.node)))
		if !strings.HasPrefix(s.text, "{") && !strings.HasPrefix(s.text, "function") {
			wantRead(t, s.text, program(ask(s.node)))
			wantRead(t, s.text+"\n;"+s.text+"\n", program(ask(s.node), ask(s.node)))
		}
	}
}

// expressionPlaces is where an assignment may stand; the inner one of each is #.
func expressionPlaces() map[string]func(impl.Node) impl.Node {
	return map[string]func(impl.Node) impl.Node{
		"#":                 func(x impl.Node) impl.Node { return x },
		"(#)":               func(x impl.Node) impl.Node { return x },
		"function () { # }": func(x impl.Node) impl.Node { return function(nil, ask(x)) },
		"{a: #}":            func(x impl.Node) impl.Node { return named(impl.NObject, "", []string{"a"}, x) },
		"{a: 1, \"b\": #}":  func(x impl.Node) impl.Node { return named(impl.NObject, "", []string{"a", "b"}, one, x) },
		"(#).b":             func(x impl.Node) impl.Node { return member(x, "b") },
		"(#)[b]":            func(x impl.Node) impl.Node { return index(x, b) },
		"a[#]":              func(x impl.Node) impl.Node { return index(a, x) },
		"(#)(1)":            func(x impl.Node) impl.Node { return call(x, one) },
		"a(#, #)":           func(x impl.Node) impl.Node { return call(a, x, x) },
		"new (#)(1)":        func(x impl.Node) impl.Node { return made(x, one) },
		"new a(1, #)":       func(x impl.Node) impl.Node { return made(a, one, x) },
		"! (#)":             func(x impl.Node) impl.Node { return tree(impl.NUnary, "!", x) },
		"delete (#)":        func(x impl.Node) impl.Node { return tree(impl.NUnary, "delete", x) },
		"(#) * (#)":         func(x impl.Node) impl.Node { return binary("*", x, x) },
		"(#) ? # : #":       func(x impl.Node) impl.Node { return tree(impl.NCond, "", x, x, x) },
		"a = #":             func(x impl.Node) impl.Node { return tree(impl.NAssign, "", a, x) },
		"a.b = #":           func(x impl.Node) impl.Node { return tree(impl.NAssign, "", member(a, "b"), x) },
		"a[#] = c ? # : b()": func(x impl.Node) impl.Node {
			return tree(impl.NAssign, "", index(a, x), tree(impl.NCond, "", c, x, call(b)))
		},
	}
}

// statementPlaces is where an expression may stand in a statement.
func statementPlaces() map[string]func(impl.Node) impl.Node {
	return map[string]func(impl.Node) impl.Node{
		"(#);":           ask,
		"var a = #, b;":  func(x impl.Node) impl.Node { return named(impl.SVar, "", []string{"a", "b"}, x, impl.Node{}) },
		"var b, a = #":   func(x impl.Node) impl.Node { return named(impl.SVar, "", []string{"b", "a"}, impl.Node{}, x) },
		"throw #":        func(x impl.Node) impl.Node { return tree(impl.SThrow, "", x) },
		"if (#) a":       func(x impl.Node) impl.Node { return tree(impl.SIf, "", x, block(ask(a))) },
		"while (#) {}":   func(x impl.Node) impl.Node { return tree(impl.SWhile, "", x, block()) },
		"with (#) {a}":   func(x impl.Node) impl.Node { return tree(impl.SWith, "", x, block(ask(a))) },
		"for (a in #) ;": func(x impl.Node) impl.Node { return numbered(impl.SFor, "a", 0, x, block(tree(impl.SEmpty, ""))) },
		"for (var a in #) b": func(x impl.Node) impl.Node {
			return numbered(impl.SFor, "a", 1, x, block(ask(b)))
		},
		"function f() { return # }": func(x impl.Node) impl.Node {
			return named(impl.SFunc, "f", nil, tree(impl.SReturn, "", x))
		},
	}
}

func TestExpressionsWithinAllOthers(t *testing.T) {
	for _, s := range expressionTexts() {
		for around, node := range expressionPlaces() {
			inner := s.text
			if strings.HasPrefix(around, "function") {
				inner = "(" + inner + ")"
			}
			wantRead(t, "throw "+strings.ReplaceAll(around, "#", inner), program(tree(impl.SThrow, "", node(s.node))))
		}
		for around, node := range statementPlaces() {
			wantRead(t, strings.ReplaceAll(around, "#", s.text), program(node(s.node)))
		}
	}
}

// statementTexts has statements as they may be written.
func statementTexts() []sample {
	nothing, empty := impl.Node{}, tree(impl.SEmpty, "")
	return []sample{
		{ask(a), `a;`},
		{ask(tree(impl.NAssign, "", a, one)), `a = 1;`},
		{ask(textNode("use strict")), `("use strict");`},
		{named(impl.SVar, "", []string{"a"}, nothing), `var a;`},
		{named(impl.SVar, "", []string{"a", "b", "a"}, one, nothing, tree(impl.NAssign, "", a, b)), `var a = 1, b, a = a = b;`},
		{named(impl.SVar, "", []string{"eval", "arguments"}, nothing, one), `var eval, arguments = 1;`},
		{tree(impl.SIf, "", a, block(ask(b))), `if (a) b;`},
		{tree(impl.SIf, "", a, block(ask(b))), `if (a) { b }`},
		{tree(impl.SIf, "", a, block(empty)), `if (a);`},
		{tree(impl.SIf, "", a, block(block())), `if (a) {{}}`},
		{tree(impl.SIf, "", a, block(ask(b)), block(ask(c))), `if (a) b; else c;`},
		{tree(impl.SIf, "", a, block(), block(ask(b))), `if (a) {} else {b}`},
		{tree(impl.SIf, "", a, block(), block(tree(impl.SIf, "", b, block(), block()))), `if (a) {} else if (b) {} else {}`},
		{tree(impl.SIf, "", a, block(tree(impl.SIf, "", b, block(), block(empty)))), `if (a) if (b) {} else ;`},
		{tree(impl.SIf, "", a, block(tree(impl.SIf, "", b, block())), block(empty)), `if (a) { if (b) {} } else ;`},
		{tree(impl.SWhile, "", a, block(ask(b))), `while (a) b;`},
		{tree(impl.SWhile, "", a, block(tree(impl.SBreak, ""))), `while (a) break;`},
		{tree(impl.SWhile, "", a, block(tree(impl.SContinue, ""))), `while (a) {continue}`},
		{tree(impl.SWhile, "", a, block(tree(impl.SIf, "", b, block(tree(impl.SBreak, "")), block(tree(impl.SContinue, ""))))), `while (a) if (b) break; else continue;`},
		{numbered(impl.SFor, "a", 0, b, block(tree(impl.SBreak, ""))), `for (a in b) break;`},
		{numbered(impl.SFor, "a", 1, b, block(block(tree(impl.SContinue, "")))), `for (var a in b) {{continue;}}`},
		{numbered(impl.SFor, "a", 0, binary("in", b, c), block()), `for (a in b in c) {}`},
		{numbered(impl.SFor, "eval", 0, b, block()), `for (eval in b) {}`},
		{numbered(impl.SFor, "arguments", 1, b, block()), `for (var arguments in b) {}`},
		{tree(impl.SWith, "", a, block(ask(b))), `with (a) b;`},
		{tree(impl.SWith, "", a, block(tree(impl.SWith, "", b, block()))), `with (a) with (b) {}`},
		{tree(impl.SThrow, "", a), `throw a;`},
		{tree(impl.SThrow, "", named(impl.NObject, "", nil)), `throw {};`},
		{numbered(impl.STry, "e", 1, block(ask(a)), block(ask(b))), `try {a} catch (e) {b}`},
		{numbered(impl.STry, "", 2, block(), block(ask(b))), `try {} finally {b}`},
		{numbered(impl.STry, "e", 3, block(), block(), block(ask(b))), `try {} catch (e) {} finally {b}`},
		{numbered(impl.STry, "eval", 1, block(), block()), `try {} catch (eval) {}`},
		{numbered(impl.STry, "arguments", 3, block(), block(), block()), `try {} catch (arguments) {} finally {}`},
		{block(), `{}`},
		{block(ask(a)), `{a}`},
		{block(block(block(empty))), `{{{;}}}`},
		{block(ask(a), ask(b), empty), `{a; b;;}`},
		{empty, `;`},
	}
}

// functionTexts has the statements that may stand in no other one.
func functionTexts() []sample {
	return []sample{
		{named(impl.SFunc, "f", nil), `function f(){}`},
		{named(impl.SFunc, "f", []string{"a"}, tree(impl.SReturn, "")), `function f(a) {return}`},
		{named(impl.SFunc, "f", []string{"a", "b", "a"}, tree(impl.SReturn, "", a)), `function f(a, b, a) { return a; }`},
		{named(impl.SFunc, "eval", []string{"arguments", "eval"}), `function eval(arguments, eval) {}`},
		{named(impl.SFunc, "f", nil, named(impl.SFunc, "g", []string{"f"})), `function f() { function g(f) {} }`},
		{named(impl.SFunc, "f", nil, tree(impl.SWhile, "", a, block(tree(impl.SReturn, "", b)))), `function f() { while (a) return b }`},
		{named(impl.SFunc, "f", nil, ask(function(nil, tree(impl.SReturn, "")))), `function f() { (function () { return }) }`},
	}
}

func TestReadOfStatements(t *testing.T) {
	var kids []impl.Node
	var text string
	for _, s := range append(statementTexts(), functionTexts()...) {
		wantRead(t, s.text, program(s.node))
		wantRead(t, "\n"+s.text+" // the end", program(s.node))
		wantRead(t, "function g(){"+s.text+"}", program(named(impl.SFunc, "g", nil, s.node)))
		wantRead(t, "throw function(){"+s.text+"}", program(tree(impl.SThrow, "", function(nil, s.node))))
		if len(kids) < 40 {
			kids, text = append(kids, s.node), text+" "+s.text
		}
	}
	wantRead(t, text, program(kids...))
}

func TestStatementsWithinAllOthers(t *testing.T) {
	around := map[string]func(kids ...impl.Node) impl.Node{
		"{#}":                  block,
		"if (a) {#}":           func(kids ...impl.Node) impl.Node { return tree(impl.SIf, "", a, block(kids...)) },
		"if (a) {} else {#}":   func(kids ...impl.Node) impl.Node { return tree(impl.SIf, "", a, block(), block(kids...)) },
		"while (a) {#}":        func(kids ...impl.Node) impl.Node { return tree(impl.SWhile, "", a, block(kids...)) },
		"for (a in b) {#}":     func(kids ...impl.Node) impl.Node { return numbered(impl.SFor, "a", 0, b, block(kids...)) },
		"with (a) {#}":         func(kids ...impl.Node) impl.Node { return tree(impl.SWith, "", a, block(kids...)) },
		"try {#} finally {}":   func(kids ...impl.Node) impl.Node { return numbered(impl.STry, "", 2, block(kids...), block()) },
		"try {} finally {#}":   func(kids ...impl.Node) impl.Node { return numbered(impl.STry, "", 2, block(), block(kids...)) },
		"try {} catch (a) {#}": func(kids ...impl.Node) impl.Node { return numbered(impl.STry, "a", 1, block(), block(kids...)) },
		"function f() {;#}":    func(kids ...impl.Node) impl.Node { return named(impl.SFunc, "f", nil, append(empties(1), kids...)...) },
		"throw function () {;#}": func(kids ...impl.Node) impl.Node {
			return tree(impl.SThrow, "", function(nil, append(empties(1), kids...)...))
		},
		"function f(a) {if (a) {} else {#}}": func(kids ...impl.Node) impl.Node {
			return named(impl.SFunc, "f", []string{"a"}, tree(impl.SIf, "", a, block(), block(kids...)))
		},
	}
	for _, s := range statementTexts() {
		for text, node := range around {
			wantRead(t, strings.ReplaceAll(text, "#", s.text), program(node(s.node)))
			wantRead(t, strings.ReplaceAll(text, "#", s.text+s.text), program(node(s.node, s.node)))
		}
		if s.node.Kind == impl.SBlock {
			continue
		}
		for _, text := range []string{"if (a) #", "if (a) {} else #", "while (a) #", "for (a in b) #", "for (var a in b) #", "with (a) #"} {
			bare, braced := strings.ReplaceAll(text, "#", s.text), strings.ReplaceAll(text, "#", "{"+s.text+"}")
			wantReadAs(t, bare, braced)
		}
	}
}

var ranks = []string{"||", "&&", "=== !== == !=", "< <= > >= in", "+ -", "* / %"}

func rankOf(op string) int {
	for i, list := range ranks {
		if strings.Contains(" "+list+" ", " "+op+" ") {
			return i
		}
	}
	return -1
}

func TestRanksOfOperators(t *testing.T) {
	operators := strings.Fields(strings.Join(ranks, " "))
	for _, x := range operators {
		wantRead(t, "a "+x+" b", program(ask(binary(x, a, b))))
		wantRead(t, "!a "+x+" -b", program(ask(binary(x, tree(impl.NUnary, "!", a), tree(impl.NUnary, "-", b)))))
		wantRead(t, "typeof a.b "+x+" new c()", program(ask(binary(x, tree(impl.NUnary, "typeof", member(a, "b")), made(c)))))
		wantRead(t, "a "+x+" b ? c "+x+" a : b "+x+" c", program(ask(tree(impl.NCond, "", binary(x, a, b), binary(x, c, a), binary(x, b, c)))))
		wantRead(t, "a = b "+x+" c", program(ask(tree(impl.NAssign, "", a, binary(x, b, c)))))
		wantRead(t, "a "+x+" (b = c)", program(ask(binary(x, a, tree(impl.NAssign, "", b, c)))))
		for _, y := range operators {
			want := binary(y, binary(x, a, b), c)
			if rankOf(y) > rankOf(x) {
				want = binary(x, a, binary(y, b, c))
			}
			wantRead(t, "a "+x+" b "+y+" c", program(ask(want)))
			wantRead(t, "a "+x+" (b "+y+" c)", program(ask(binary(x, a, binary(y, b, c)))))
			wantRead(t, "(a "+x+" b) "+y+" c", program(ask(binary(y, binary(x, a, b), c))))
		}
	}
}

// weakestLast takes a row of operands and operators apart at the last one of the
// weakest rank, otherwise than the program does.
func weakestLast(operands []impl.Node, operators []string) impl.Node {
	if len(operators) == 0 {
		return operands[0]
	}
	at := 0
	for i, op := range operators {
		if rankOf(op) <= rankOf(operators[at]) {
			at = i
		}
	}
	return binary(operators[at], weakestLast(operands[:at+1], operators[:at]), weakestLast(operands[at+1:], operators[at+1:]))
}

func TestRowsOfOperators(t *testing.T) {
	d := &draws{state: 11}
	all := strings.Fields(strings.Join(ranks, " "))
	for range 2000 {
		operands, operators := []impl.Node{a}, []string(nil)
		text := "a"
		for range d.below(12) {
			op, operand := all[d.below(len(all))], []impl.Node{a, b, one}[d.below(3)]
			operands, operators = append(operands, operand), append(operators, op)
			text += " " + op + " " + operand.Text
			if operand.Kind == impl.NNum {
				text += "1"
			}
		}
		wantRead(t, text, program(ask(weakestLast(operands, operators))))
	}
}

// What a text reads is no word or mark.
func TestTextsThatReadAsMarks(t *testing.T) {
	for _, text := range append(append([]string{"eval", "a"}, allWords...), allMarks...) {
		shown := `"` + text + `"`
		wantRead(t, shown, program(ask(textNode(text))))
		wantRead(t, "a["+shown+"]", program(ask(index(a, textNode(text)))))
		wantRead(t, "throw {"+shown+": "+shown+"}", program(tree(impl.SThrow, "", named(impl.NObject, "", []string{text}, textNode(text)))))
		wantRead(t, shown+" + "+shown, program(ask(binary("+", textNode(text), textNode(text)))))
		wantRead(t, "a\n"+shown, program(ask(a), ask(textNode(text))))
		wantWrong(t, impl.ErrSyntax, "a ^"+shown+" b")
		wantWrong(t, impl.ErrSyntax, "a.^"+shown)
		wantWrong(t, impl.ErrSyntax, "var ^"+shown)
		wantWrong(t, impl.ErrSyntax, "if ^"+shown+"a) b")
	}
}

func TestWhatEndsAStatement(t *testing.T) {
	bodies := []struct {
		text string
		node impl.Node
	}{
		{"a", ask(a)},
		{"a = b", ask(tree(impl.NAssign, "", a, b))},
		{"var a", named(impl.SVar, "", []string{"a"}, impl.Node{})},
		{"var b, a = 1", named(impl.SVar, "", []string{"b", "a"}, impl.Node{}, one)},
		{"return", tree(impl.SReturn, "")},
		{"return a", tree(impl.SReturn, "", a)},
		{"break", tree(impl.SBreak, "")},
		{"continue", tree(impl.SContinue, "")},
		{"throw a", tree(impl.SThrow, "", a)},
	}
	within := func(kids ...impl.Node) impl.Node {
		return program(named(impl.SFunc, "f", nil, tree(impl.SWhile, "", a, block(kids...))))
	}
	for _, body := range bodies {
		head := "function f() { while (a) { "
		wantRead(t, head+body.text+";}}", within(body.node))
		wantRead(t, head+body.text+"\n;}}", within(body.node))
		wantRead(t, head+body.text+"}}", within(body.node))
		wantRead(t, head+body.text+"\n}}", within(body.node))
		wantRead(t, head+body.text+"// x\n}}", within(body.node))
		wantRead(t, head+body.text+";;}}", within(body.node, tree(impl.SEmpty, "")))
		wantRead(t, head+body.text+"\n;;}}", within(body.node, tree(impl.SEmpty, "")))
		for _, next := range statementTexts() {
			if next.text[0] == ';' || next.text[0] == '(' {
				continue
			}
			wantRead(t, head+body.text+"\n"+next.text+"}}", within(body.node, next.node))
			wantRead(t, head+body.text+";"+next.text+"}}", within(body.node, next.node))
		}
		wantRead(t, head+"if (b) "+body.text+"\nelse "+body.text+"}}", within(tree(impl.SIf, "", b, block(body.node), block(body.node))))
		wantWrong(t, impl.ErrSyntax, head+"if (b) "+body.text+" ^else "+body.text+"}}")
		wantWrong(t, impl.ErrSyntax, head+body.text+" ^)}}")
		wantWrong(t, impl.ErrSyntax, head+body.text+" ^if (a) b}}")
		wantWrong(t, impl.ErrSyntax, head+body.text+"\n^)}}")
		wantWrong(t, impl.ErrSyntax, head+body.text+"^")
	}
	for _, text := range []string{"a", "a = b", "var a", "var b, a = 1", "throw a"} {
		wantReadAs(t, text, text+";")
		wantReadAs(t, text+"\n", text+";")
		wantReadAs(t, text+"// x", text+";")
	}
	wantRead(t, "function f() { return }", program(named(impl.SFunc, "f", nil, tree(impl.SReturn, ""))))
	for _, s := range statementTexts() {
		if strings.HasSuffix(s.text, "}") {
			wantRead(t, s.text+" a", program(s.node, ask(a)))
			wantRead(t, s.text+";", program(s.node, tree(impl.SEmpty, "")))
		}
	}
}

// What may go on with an expression does, in the next line, too.
func TestWhatDoesNotEndAStatement(t *testing.T) {
	for _, behind := range []string{"+ b", "- b", "in b", "&& b", "== b", ".b", "[b]", "(b)", "? b : c", "= b", "/ b"} {
		wantReadAs(t, "a\n"+behind, "a "+behind+";")
		wantReadAs(t, "var c = a\n\n"+behind, "var c = a "+behind+";")
		wantReadAs(t, "throw a\n"+behind+"\n", "throw a "+behind+";")
		wantReadAs(t, "function f() { return a\n"+behind+"}", "function f() { return a "+behind+"; }")
	}
	wantReadAs(t, "a\n!b", "a; !b")
	wantReadAs(t, "a\ntypeof b", "a; typeof b")
	wantReadAs(t, "a\nnew b()", "a; new b()")
	wantReadAs(t, "var a\n= 1", "var a = 1")
	wantReadAs(t, "var a\n, b", "var a, b")
	wantReadAs(t, "var a\n(b)", "var a; (b)")
	wantReadAs(t, "var a\n-b", "var a; -b")
	wantReadAs(t, "function f() {\nreturn\n(a)\n}", "function f() { return; (a) }")
	wantReadAs(t, "while (a)\nbreak\n-b", "while (a) break; -b")
	wantReadAs(t, "if\n(\na\n)\nb\nelse\nc", "if (a) b; else c")
	wantReadAs(t, "try\n{\n}\ncatch\n(\na\n)\n{\n}\nfinally\n{\n}", "try {} catch (a) {} finally {}")
	wantReadAs(t, "for\n(\nvar\na\nin\nb\n)\n;", "for (var a in b);")
	wantReadAs(t, "function\nf\n(\na\n,\nb\n)\n{\n}", "function f(a, b) {}")
	wantReadAs(t, "a\n.\nb\n(\nc\n,\n1\n)", "a.b(c, 1)")
	wantReadAs(t, "new\na\n.\nb\n(\n)\n.\nc", "new a.b().c")
}

func TestReturnAndThrow(t *testing.T) {
	returned := func(kids ...impl.Node) impl.Node { return program(named(impl.SFunc, "f", nil, kids...)) }
	alone := tree(impl.SReturn, "")
	wantRead(t, "function f() { return a\n}", returned(tree(impl.SReturn, "", a)))
	wantRead(t, "function f() { return\na }", returned(alone, ask(a)))
	wantRead(t, "function f() { return // x\na }", returned(alone, ask(a)))
	wantRead(t, "function f() { return\n}", returned(alone))
	wantRead(t, "function f() { return\n; }", returned(alone))
	wantRead(t, "function f() { return {} }", returned(tree(impl.SReturn, "", named(impl.NObject, "", nil))))
	wantRead(t, "function f() { return\n{} }", returned(alone, block()))
	wantRead(t, "function f() { return function () {} }", returned(tree(impl.SReturn, "", function(nil))))
	wantRead(t, "function f() { return\nfunction g() {} }", returned(alone, named(impl.SFunc, "g", nil)))
	wantRead(t, "function f() { return a = b }", returned(tree(impl.SReturn, "", tree(impl.NAssign, "", a, b))))
	wantWrong(t, impl.ErrSyntax, "function f() { return^")
	wantWrong(t, impl.ErrSyntax, "function f() { return ^) }")
	wantWrong(t, impl.ErrSyntax, "function f() { return a ^b }")
	wantWrong(t, impl.ErrSyntax, "function f() { return ^if (a) b }")
	wantRead(t, "throw a\n+ b", program(tree(impl.SThrow, "", binary("+", a, b))))
	wantWrong(t, impl.ErrSyntax, "throw\n^a")
	wantWrong(t, impl.ErrSyntax, "throw // x\n^a")
	wantWrong(t, impl.ErrSyntax, "throw\n^;")
	wantWrong(t, impl.ErrSyntax, "throw\n^")
	wantWrong(t, impl.ErrSyntax, "throw^")
	wantWrong(t, impl.ErrSyntax, "throw^;")
	wantWrong(t, impl.ErrSyntax, "{throw ^}")
	wantWrong(t, impl.ErrSyntax, "throw a ^b")
}
