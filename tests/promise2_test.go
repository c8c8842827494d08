package tests

import (
	"strings"
	"testing"

	"loop.example/g00317/impl"
)

// writer draws programs that may be read, each Node with how it is shown.
type writer struct {
	draws
	strict, inFunction, inLoop bool
}

func (w *writer) name() string {
	names := []string{"a", "b", "x1", "_", "$", "f", "abcdefghijklmnopqrst", "use", "strict"}
	return names[w.below(len(names))]
}

func (w *writer) pick(texts string) string {
	list := strings.Fields(texts)
	return list[w.below(len(list))]
}

func (w *writer) head(deep int, calls bool) sample {
	if deep == 0 || w.below(3) > 0 {
		text := w.name()
		return sample{nameNode(text), text}
	}
	s := w.expression(deep - 1)
	for !calls && headCalls(s.node) {
		s = w.expression(deep - 1)
	}
	switch s.node.Kind {
	case impl.NNum, impl.NFunc, impl.NObject:
		s.text = "(" + s.text + ")"
	}
	return s
}

// headCalls tells of what can't be the head of new as it is shown.
func headCalls(n impl.Node) bool {
	for n.Kind == impl.NMember || n.Kind == impl.NIndex {
		n = n.Kids[0]
	}
	return n.Kind == impl.NCall
}

func (w *writer) leaf() sample {
	switch w.below(4) {
	case 0:
		n := w.below(1000)
		return sample{numNode(int64(n)), decimal(n)}
	case 1:
		text := w.text(6)
		return sample{tree(impl.NText, text), impl.Quote(text)}
	case 2:
		text := w.pick("true false null undefined this")
		return sample{tree(impl.NWord, text), text}
	}
	text := w.name()
	return sample{nameNode(text), text}
}

func (w *writer) list(deep int) ([]impl.Node, string) {
	var kids []impl.Node
	var texts []string
	for range w.below(3) {
		s := w.expression(deep)
		kids, texts = append(kids, s.node), append(texts, s.text)
	}
	return kids, strings.Join(texts, ", ")
}

func (w *writer) expression(deep int) sample {
	if deep == 0 {
		return w.leaf()
	}
	switch w.below(11) {
	case 0:
		return w.function("")
	case 1:
		return w.object(deep - 1)
	case 2, 3:
		return w.target(deep)
	case 4:
		head := w.head(deep, true)
		kids, text := w.list(deep - 1)
		return sample{tree(impl.NCall, "", append([]impl.Node{head.node}, kids...)...), head.text + "(" + text + ")"}
	case 5:
		head := w.head(deep, false)
		kids, text := w.list(deep - 1)
		return sample{tree(impl.NNew, "", append([]impl.Node{head.node}, kids...)...), "(new " + head.text + "(" + text + "))"}
	case 6:
		op := w.pick("! - typeof")
		s := w.expression(deep - 1)
		return sample{tree(impl.NUnary, op, s.node), "(" + op + " " + s.text + ")"}
	case 7:
		s := w.target(deep)
		for w.strict && s.node.Kind == impl.NName {
			s = w.target(deep)
		}
		return sample{tree(impl.NUnary, "delete", s.node), "(delete " + s.text + ")"}
	case 8:
		op := w.pick("=== !== == != <= >= < > in + - * / % && ||")
		x, y := w.expression(deep-1), w.expression(deep-1)
		return sample{tree(impl.NBinary, op, x.node, y.node), "(" + x.text + " " + op + " " + y.text + ")"}
	case 9:
		x, y, z := w.expression(deep-1), w.expression(deep-1), w.expression(deep-1)
		return sample{tree(impl.NCond, "", x.node, y.node, z.node), "(" + x.text + " ? " + y.text + " : " + z.text + ")"}
	}
	x, y := w.target(deep), w.expression(deep-1)
	return sample{tree(impl.NAssign, "", x.node, y.node), "(" + x.text + " = " + y.text + ")"}
}

func (w *writer) target(deep int) sample {
	switch w.below(3) {
	case 0:
		text := w.name()
		return sample{nameNode(text), text}
	case 1:
		text := w.name()
		head := w.head(deep, true)
		return sample{tree(impl.NMember, text, head.node), head.text + "." + text}
	}
	head, key := w.head(deep, true), w.expression(deep-1)
	return sample{tree(impl.NIndex, "", head.node, key.node), head.text + "[" + key.text + "]"}
}

func (w *writer) object(deep int) sample {
	n := tree(impl.NObject, "")
	var texts []string
	for range w.below(4) {
		key := w.text(3)
		s := w.expression(deep)
		n.Names, n.Kids = append(n.Names, key), append(n.Kids, s.node)
		texts = append(texts, impl.Quote(key)+": "+s.text)
	}
	return sample{n, "({" + strings.Join(texts, ", ") + "})"}
}

// function draws an NFunc, or an SFunc if it has a name.
func (w *writer) function(text string) sample {
	outer := *w
	n := tree(impl.NFunc, text)
	if text != "" {
		n.Kind = impl.SFunc
	}
	w.inFunction, w.inLoop = true, false
	w.strict = w.strict || w.below(4) == 0
	n.Strict = w.strict
	for range w.below(3) {
		n.Names = append(n.Names, w.name())
	}
	if len(n.Names) == 2 && n.Names[0] == n.Names[1] && n.Strict {
		n.Names = n.Names[1:]
	}
	kids, body := w.statements(2, true)
	n.Kids = kids
	if n.Strict {
		body = "\"use strict\";" + body
	}
	w.strict, w.inFunction, w.inLoop = outer.strict, outer.inFunction, outer.inLoop
	return sample{n, "function " + text + "(" + strings.Join(n.Names, ", ") + ") {" + body + "}"}
}

func (w *writer) statements(deep int, outmost bool) ([]impl.Node, string) {
	var kids []impl.Node
	var text string
	for range w.below(4) {
		s := w.statement(deep)
		if outmost && w.below(5) == 0 {
			s = w.function(w.name())
		}
		kids, text = append(kids, s.node), text+s.text
	}
	return kids, text
}

func (w *writer) block(deep int) sample {
	kids, text := w.statements(deep, false)
	return sample{block(kids...), "{" + text + "}"}
}

func (w *writer) statement(deep int) sample {
	if deep == 0 {
		return sample{tree(impl.SEmpty, ""), ";"}
	}
	switch w.below(10) {
	case 0:
		return w.vars()
	case 1:
		return w.condition(deep - 1)
	case 2, 3:
		return w.loop(deep - 1)
	case 4:
		if w.strict {
			break
		}
		s, body := w.expression(1), w.block(deep-1)
		return sample{tree(impl.SWith, "", s.node, body.node), "with (" + s.text + ") " + body.text}
	case 5:
		s := w.expression(1)
		return sample{tree(impl.SThrow, "", s.node), "throw " + s.text + ";"}
	case 6:
		return w.try(deep - 1)
	case 7:
		return w.block(deep - 1)
	case 8:
		return w.end()
	}
	s := w.expression(3)
	return sample{ask(s.node), "(" + s.text + ");"}
}

func (w *writer) vars() sample {
	n := tree(impl.SVar, "")
	var texts []string
	for range 1 + w.below(3) {
		name := w.name()
		kid := sample{}
		if w.below(2) == 0 {
			kid = w.expression(1)
			texts = append(texts, name+" = "+kid.text)
		} else {
			texts = append(texts, name)
		}
		n.Names, n.Kids = append(n.Names, name), append(n.Kids, kid.node)
	}
	return sample{n, "var " + strings.Join(texts, ", ") + ";"}
}

func (w *writer) condition(deep int) sample {
	s, yes := w.expression(1), w.block(deep)
	out := sample{tree(impl.SIf, "", s.node, yes.node), "if (" + s.text + ") " + yes.text}
	if w.below(2) == 0 {
		no := w.block(deep)
		out.node.Kids = append(out.node.Kids, no.node)
		out.text += " else " + no.text
	}
	return out
}

func (w *writer) loop(deep int) sample {
	outer := w.inLoop
	s := w.expression(1)
	w.inLoop = true
	body := w.block(deep)
	w.inLoop = outer
	name := w.name()
	switch w.below(3) {
	case 0:
		return sample{tree(impl.SWhile, "", s.node, body.node), "while (" + s.text + ") " + body.text}
	case 1:
		return sample{numbered(impl.SFor, name, 1, s.node, body.node), "for (var " + name + " in " + s.text + ") " + body.text}
	}
	return sample{numbered(impl.SFor, name, 0, s.node, body.node), "for (" + name + " in " + s.text + ") " + body.text}
}

func (w *writer) try(deep int) sample {
	first, second, third := w.block(deep), w.block(deep), w.block(deep)
	name := w.name()
	switch w.below(3) {
	case 0:
		return sample{numbered(impl.STry, name, 1, first.node, second.node), "try " + first.text + " catch (" + name + ") " + second.text}
	case 1:
		return sample{numbered(impl.STry, "", 2, first.node, second.node), "try " + first.text + " finally " + second.text}
	}
	return sample{numbered(impl.STry, name, 3, first.node, second.node, third.node),
		"try " + first.text + " catch (" + name + ") " + second.text + " finally " + third.text}
}

func (w *writer) end() sample {
	switch {
	case w.inLoop && w.below(2) == 0:
		return sample{tree(impl.SBreak, ""), "break;"}
	case w.inLoop:
		return sample{tree(impl.SContinue, ""), "continue;"}
	case w.inFunction && w.below(2) == 0:
		return sample{tree(impl.SReturn, ""), "return;"}
	case w.inFunction:
		s := w.expression(2)
		return sample{tree(impl.SReturn, "", s.node), "return " + s.text + ";"}
	}
	return sample{tree(impl.SEmpty, ""), ";"}
}

func (w *writer) program() sample {
	w.strict, w.inFunction, w.inLoop = w.below(4) == 0, false, false
	kids, text := w.statements(4, true)
	n := program(kids...)
	n.Strict = w.strict
	if n.Strict {
		text = "\"use strict\";" + text
	}
	return sample{n, text}
}

// tooLarge tells of a program that Show itself refuses, not the reading of it.
func tooLarge(s sample) bool {
	return len(s.text) > impl.MaxBytes || impl.NodeCount(s.node) > 400
}

func TestProgramsAreShown(t *testing.T) {
	w := &writer{draws: draws{state: 5}}
	right := 0
	for range 3000 {
		s := w.program()
		wantSame(t, s.node, copied(s.node), true)
		switch {
		case tooLarge(s):
			wantShown(t, s.node, "")
		case impl.Tokens(s.text).Code == impl.OK:
			wantShown(t, s.node, s.text)
			wantRead(t, s.text, s.node)
			right++
		}
		if t.Failed() {
			return
		}
	}
	if right < 1500 {
		t.Errorf("only %d programs are shown", right)
	}
}

func TestProgramsAreReadOfWhatIsShown(t *testing.T) {
	kinds := map[int64]int{}
	for _, text := range readable() {
		first := impl.ScriptRead(text)
		shown := impl.Show(first.Node)
		if first.Code != impl.OK || shown == "" && len(first.Node.Kids) > 0 {
			t.Errorf("%.300q is read as %+v and shown as %q", text, first, shown)
		}
		wantRead(t, shown, first.Node)
		wantShown(t, impl.ScriptRead(shown).Node, shown)
		countKinds(first.Node, kinds)
	}
	for kind := range kindHas {
		if kinds[kind] < 10 {
			t.Errorf("only %d Nodes of the kind %d", kinds[kind], kind)
		}
	}
}

func countKinds(n impl.Node, kinds map[int64]int) {
	kinds[n.Kind]++
	for _, kid := range n.Kids {
		countKinds(kid, kinds)
	}
}

// readable has programs as they may be written, which can be shown, too.
func readable() []string {
	var out []string
	for _, s := range expressionTexts() {
		if !strings.HasPrefix(s.text, "new (a()") && len(s.text) < 1000 {
			out = append(out, "("+s.text+")", "var a = "+s.text, "function f() { return "+s.text+" }")
		}
	}
	for _, s := range append(statementTexts(), functionTexts()...) {
		out = append(out, s.text, "function f(a) {"+s.text+"}", "throw function () {"+s.text+s.text+"}")
	}
	return append(out, "\"use strict\"; function f(a) { return function () { return this } }",
		"function f() {\"use strict\"; while (a) { break } }", "\"use strict\"\n\"use strict\"", "")
}
