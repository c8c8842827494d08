package tests

import (
	"strings"

	"loop.example/g00317/impl"
)

// runWriter draws scripts that mostly come to their end: loops are counted, and functions call only such
// as stand ahead of them.
type runWriter struct {
	draws
	strict     bool
	inFunction bool
	inLoop     bool
	inEval     bool
	functions  []string
	loops      int
}

func (w *runWriter) pick(texts string) string {
	list := strings.Fields(texts)
	return list[w.below(len(list))]
}

func (w *runWriter) name() string {
	return w.pick("a b c x y o")
}

func (w *runWriter) target() string {
	switch w.below(4) {
	case 0:
		return "o." + w.name()
	case 1:
		if w.inFunction && !w.inEval {
			return "arguments[" + w.pick("0 1 2") + "]"
		}
		return "this[" + quote(w.name()) + "]"
	}
	return w.name()
}

func (w *runWriter) leaf() string {
	switch w.below(6) {
	case 0:
		return w.pick("0 1 2 10 999999999999999")
	case 1:
		return quote(w.pick("a 12 -3 x length"))
	case 2:
		return w.pick("true false null undefined this")
	case 3:
		return w.target()
	}
	return w.name()
}

func (w *runWriter) expression(deep int) string {
	if deep == 0 {
		return w.leaf()
	}
	switch w.below(12) {
	case 0:
		return "{" + w.name() + ": " + w.expression(deep-1) + ", " + w.name() + ": " + w.expression(deep-1) + "}"
	case 1:
		return "(" + w.pick("! - typeof") + " " + w.expression(deep-1) + ")"
	case 2:
		if w.strict {
			return "(delete o." + w.name() + ")"
		}
		return "(delete " + w.target() + ")"
	case 3, 4:
		op := w.pick("=== !== == != <= >= < > + - * / % && ||")
		return "(" + w.expression(deep-1) + " " + op + " " + w.expression(deep-1) + ")"
	case 5:
		return "(" + w.expression(deep-1) + " ? " + w.expression(deep-1) + " : " + w.expression(deep-1) + ")"
	case 6:
		return "(" + w.target() + " = " + w.expression(deep-1) + ")"
	case 7:
		return "(" + quote(w.name()) + " in o)"
	case 8, 9:
		return w.call(deep - 1)
	}
	return w.leaf()
}

func (w *runWriter) call(deep int) string {
	if len(w.functions) == 0 {
		return w.leaf()
	}
	name := w.functions[w.below(len(w.functions))]
	head := []string{name, "new " + name, "o.m", "(0 || " + name + ")", "this." + name}[w.below(5)]
	return head + "(" + w.expression(deep) + ", " + w.expression(0) + ")"
}

func (w *runWriter) statements(deep int) string {
	var text string
	for range 1 + w.below(3) {
		text += w.statement(deep) + "\n"
	}
	return text
}

func (w *runWriter) statement(deep int) string {
	if deep == 0 {
		return "print(" + w.expression(1) + ")"
	}
	switch w.below(14) {
	case 0:
		return "var " + w.name() + ", " + w.name() + " = " + w.expression(2)
	case 1:
		return "if (" + w.expression(1) + ") {" + w.statements(deep-1) + "} else {" + w.statements(deep-1) + "}"
	case 2, 3:
		return w.loop(deep - 1)
	case 4:
		if !w.strict {
			return "with (" + w.pick("o this {} o.y 1 {a:1,x:2}") + ") {" + w.statements(deep-1) + "}"
		}
	case 5, 6:
		return w.try(deep - 1)
	case 7:
		return w.eval(deep - 1)
	case 8:
		return w.leaving()
	case 9:
		return w.target() + " = " + w.expression(2)
	case 10:
		return "o.m = function (x) {" + w.body(deep-1) + "}"
	}
	return "print(" + w.expression(2) + ")"
}

func (w *runWriter) loop(deep int) string {
	outer := w.inLoop
	w.inLoop = true
	body := w.statements(deep)
	w.inLoop = outer
	if w.below(2) == 0 {
		return "for (" + w.pick("a x k") + " in " + w.pick("o this.o {p:1,q:2} 1") + ") {" + body + "}"
	}
	w.loops++
	i := "i" + decimal(w.loops)
	return "var " + i + " = 0; while (" + i + " < 3) { " + i + " = " + i + " + 1; " + body + "}"
}

func (w *runWriter) try(deep int) string {
	first, second, third := w.statements(deep), w.statements(deep), w.statements(deep)
	if w.below(2) == 0 {
		first += "throw " + w.expression(1) + ";"
	}
	name := w.pick("a x e")
	return []string{
		"try {" + first + "} catch (" + name + ") {" + second + "}", "try {" + first + "} finally {" + third + "}",
		"try {" + first + "} catch (" + name + ") {" + second + "} finally {" + third + "}",
	}[w.below(3)]
}

// eval draws a call of it, unless what it is given would be too long.
func (w *runWriter) eval(deep int) string {
	outer := *w
	w.inEval, w.inLoop = true, false
	text := w.statements(min(deep, 1))
	if w.below(3) == 0 {
		text += "function " + w.name() + "() { return " + w.leaf() + " }"
	}
	w.inEval, w.inLoop = outer.inEval, outer.inLoop
	if outer.inEval || len(text) > 500 {
		return "print(eval(" + w.leaf() + "))"
	}
	return w.pick("eval this.eval (0||eval)") + "(" + impl.Quote(text) + ")"
}

func (w *runWriter) leaving() string {
	switch {
	case w.inLoop && !w.inEval:
		return w.pick("break continue")
	case w.inFunction && !w.inEval:
		return "return " + w.expression(1)
	}
	return "print(typeof " + w.name() + ")"
}

// body draws what is in a function.
func (w *runWriter) body(deep int) string {
	outer := *w
	w.inFunction, w.inLoop = true, false
	w.functions = nil
	w.strict = w.strict || w.below(4) == 0
	text := w.statements(deep)
	if w.strict {
		text = "\"use strict\";" + text
	}
	w.strict, w.inFunction, w.inLoop, w.functions = outer.strict, outer.inFunction, outer.inLoop, outer.functions
	return text
}

// program begins with names that all it has go by.
func (w *runWriter) program() string {
	return w.readable("var a = 1, b = \"2\", c, x = 5, y = null, o = {x: 3, y: {a: 4}, m: function (x) { return x }};\n")
}

// further draws a program that goes on with the names of another one.
func (w *runWriter) further() string {
	return w.readable("")
}

func (w *runWriter) readable(names string) string {
	for {
		text := w.drawn(names)
		if len(text) <= impl.MaxBytes && impl.ScriptRead(text).Code == impl.OK {
			return text
		}
	}
}

func (w *runWriter) drawn(names string) string {
	*w = runWriter{draws: w.draws}
	head := ""
	if w.strict = w.below(6) == 0; w.strict {
		head = "\"use strict\";\n"
	}
	g := "function g(x, y) {" + w.body(2) + "}\n"
	f := "function f(x, a) {" + w.body(2) + "}\n"
	w.functions = []string{"f", "g"}
	return head + names + g + f + w.statements(3)
}
