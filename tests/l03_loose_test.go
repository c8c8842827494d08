package tests

import (
	"strconv"
	"strings"
	"testing"

	"loop.example/g00317/impl"
)

// looseWriter writes a tree as somebody might: with no more parentheses and marks
// than are needed, or some more, and with line feeds wherever they may be.
type looseWriter struct {
	draws
	tokens []looseToken
}

// looseToken says whether a line feed must or must not be ahead of it, and whether
// it ends a statement.
type looseToken struct {
	text               string
	feed, noFeed, ends bool
}

// How strongly an expression holds together: a binary one as its rank, 2 to 7.
const (
	asAssignment = 0
	asCondition  = 1
	asBinary     = 2
	asOperand    = 8
	asPostfix    = 9
	asHead       = 10
)

func (w *looseWriter) put(texts ...string) {
	for _, text := range texts {
		w.tokens = append(w.tokens, looseToken{text: text})
	}
}

func (w *looseWriter) end() {
	w.tokens = append(w.tokens, looseToken{text: ";", ends: true})
}

func strength(n impl.Node) int {
	switch n.Kind {
	case impl.NAssign:
		return asAssignment
	case impl.NCond:
		return asCondition
	case impl.NBinary:
		return asBinary + rankOf(n.Text)
	case impl.NUnary:
		return asOperand
	case impl.NCall, impl.NNew:
		return asPostfix
	case impl.NMember, impl.NIndex:
		return min(strength(n.Kids[0]), asHead)
	}
	return asHead
}

func (w *looseWriter) expression(n impl.Node, least int) {
	own := strength(n)
	if n.Kind == impl.NMember || n.Kind == impl.NIndex {
		own = max(own, asPostfix)
	}
	if own < least || w.below(12) == 0 {
		w.put("(")
		w.bare(n, asAssignment)
		w.put(")")
		return
	}
	w.bare(n, least)
}

func (w *looseWriter) bare(n impl.Node, least int) {
	head := max(least, asPostfix)
	switch n.Kind {
	case impl.NNum:
		w.put(strconv.FormatInt(n.Num, 10))
	case impl.NText:
		w.put(impl.Quote(n.Text))
	case impl.NWord, impl.NName:
		w.put(n.Text)
	case impl.NFunc:
		w.put("function")
		w.function(n)
	case impl.NObject:
		w.object(n)
	case impl.NMember:
		w.expression(n.Kids[0], head)
		w.put(".", n.Text)
	case impl.NIndex:
		w.expression(n.Kids[0], head)
		w.put("[")
		w.expression(n.Kids[1], asAssignment)
		w.put("]")
	case impl.NCall:
		w.expression(n.Kids[0], asPostfix)
		w.arguments(n)
	case impl.NNew:
		w.put("new")
		w.expression(n.Kids[0], asHead)
		w.arguments(n)
	case impl.NUnary:
		w.put(n.Text)
		w.expression(n.Kids[0], asOperand)
	case impl.NBinary:
		w.expression(n.Kids[0], strength(n))
		w.put(n.Text)
		w.expression(n.Kids[1], strength(n)+1)
	case impl.NCond:
		w.expression(n.Kids[0], asBinary)
		w.put("?")
		w.expression(n.Kids[1], asAssignment)
		w.put(":")
		w.expression(n.Kids[2], asAssignment)
	case impl.NAssign:
		w.expression(n.Kids[0], asPostfix)
		w.put("=")
		w.expression(n.Kids[1], asAssignment)
	}
}

func (w *looseWriter) arguments(n impl.Node) {
	w.put("(")
	for i, kid := range n.Kids[1:] {
		if i > 0 {
			w.put(",")
		}
		w.expression(kid, asAssignment)
	}
	w.put(")")
}

func (w *looseWriter) object(n impl.Node) {
	w.put("{")
	for i, key := range n.Names {
		if i > 0 {
			w.put(",")
		}
		if impl.NameRight(key) && w.below(2) == 0 {
			w.put(key)
		} else {
			w.put(impl.Quote(key))
		}
		w.put(":")
		w.expression(n.Kids[i], asAssignment)
	}
	w.put("}")
}

func (w *looseWriter) function(n impl.Node) {
	w.put("(")
	for i, name := range n.Names {
		if i > 0 {
			w.put(",")
		}
		w.put(name)
	}
	w.put(")", "{")
	w.body(n)
	w.put("}")
}

func (w *looseWriter) body(n impl.Node) {
	if n.Strict {
		w.put(`"use strict"`)
		w.end()
	}
	for _, kid := range n.Kids {
		w.statement(kid)
	}
}

func (w *looseWriter) block(n impl.Node) {
	w.put("{")
	w.body(n)
	w.put("}")
}

// part writes a block without braces, if it may be, and mostly. In front of else
// only what ends with a mark may be so: another if would take it.
func (w *looseWriter) part(n impl.Node, ahead string) {
	if len(n.Kids) != 1 || n.Kids[0].Kind == impl.SBlock || w.below(3) == 0 {
		w.block(n)
		return
	}
	switch n.Kids[0].Kind {
	case impl.SIf, impl.SWhile, impl.SFor, impl.SWith, impl.STry:
		if ahead == "else" {
			w.block(n)
			return
		}
	}
	w.statement(n.Kids[0])
}

func (w *looseWriter) statement(n impl.Node) {
	switch n.Kind {
	case impl.SExpr:
		w.ask(n.Kids[0])
	case impl.SVar:
		w.vars(n)
	case impl.SFunc:
		w.put("function", n.Text)
		w.function(n)
	case impl.SReturn, impl.SThrow:
		w.ending(n)
	case impl.SIf:
		w.put("if", "(")
		w.expression(n.Kids[0], asAssignment)
		w.put(")")
		if len(n.Kids) == 2 {
			w.part(n.Kids[1], "")
			return
		}
		w.part(n.Kids[1], "else")
		w.put("else")
		w.part(n.Kids[2], "")
	case impl.SWhile, impl.SWith:
		w.put(map[int64]string{impl.SWhile: "while", impl.SWith: "with"}[n.Kind], "(")
		w.expression(n.Kids[0], asAssignment)
		w.put(")")
		w.part(n.Kids[1], "")
	case impl.SFor:
		w.put(strings.Fields([]string{"for (", "for ( var"}[n.Num])...)
		w.put(n.Text, "in")
		w.expression(n.Kids[0], asAssignment)
		w.put(")")
		w.part(n.Kids[1], "")
	case impl.SBreak:
		w.put("break")
		w.end()
	case impl.SContinue:
		w.put("continue")
		w.end()
	case impl.STry:
		w.try(n)
	case impl.SBlock:
		w.block(n)
	case impl.SEmpty:
		w.put(";")
	}
}

// ask keeps an expression from being read as another statement.
func (w *looseWriter) ask(n impl.Node) {
	from := len(w.tokens)
	w.expression(n, asAssignment)
	first := w.tokens[from].text
	if first == "{" || first == "function" || first == `"use strict"` {
		rest := append([]looseToken{{text: "("}}, w.tokens[from:]...)
		w.tokens = append(w.tokens[:from], rest...)
		w.put(")")
	}
	w.end()
}

func (w *looseWriter) vars(n impl.Node) {
	w.put("var")
	for i, name := range n.Names {
		if i > 0 {
			w.put(",")
		}
		w.put(name)
		if n.Kids[i].Kind != 0 {
			w.put("=")
			w.expression(n.Kids[i], asAssignment)
		}
	}
	w.end()
}

func (w *looseWriter) ending(n impl.Node) {
	w.put(map[int64]string{impl.SReturn: "return", impl.SThrow: "throw"}[n.Kind])
	from := len(w.tokens)
	if len(n.Kids) > 0 {
		w.expression(n.Kids[0], asAssignment)
		w.tokens[from].noFeed = true
	}
	w.end()
}

func (w *looseWriter) try(n impl.Node) {
	w.put("try")
	w.block(n.Kids[0])
	if n.Num != 2 {
		w.put("catch", "(", n.Text, ")")
		w.block(n.Kids[1])
	}
	if n.Num != 1 {
		w.put("finally")
		w.block(n.Kids[len(n.Kids)-1])
	}
}

// withoutMarks drops what ends a statement, where it may lack, now and then.
func (w *looseWriter) withoutMarks() []looseToken {
	var out []looseToken
	for i, token := range w.tokens {
		next := ""
		if i+1 < len(w.tokens) {
			next = w.tokens[i+1].text
		}
		if !token.ends || w.below(3) == 0 {
			out = append(out, token)
			continue
		}
		switch next {
		case "", "}":
		case "(", "[", "-", ";":
			out = append(out, token)
		default:
			w.tokens[i+1].feed = true
		}
	}
	return out
}

func (w *looseWriter) between(token looseToken) string {
	gap := w.gap()
	switch {
	case token.noFeed:
		return " "
	case token.feed:
		return gap + "\n"
	case strings.Contains("( ) { } [ ] ; ,", token.text) && w.below(2) == 0:
		return ""
	}
	return gap
}

func (w *looseWriter) program(n impl.Node) string {
	w.tokens = nil
	w.body(n)
	var text strings.Builder
	for _, token := range w.withoutMarks() {
		text.WriteString(w.between(token) + token.text)
	}
	return text.String()
}

func TestProgramsAsTheyMayBeWritten(t *testing.T) {
	w := &writer{draws: draws{state: 21}}
	loose := &looseWriter{draws: draws{state: 22}}
	read := 0
	for range 6000 {
		s := w.program()
		text := loose.program(s.node)
		if len(text) > impl.MaxBytes || impl.Tokens(text).Code != impl.OK {
			continue
		}
		wantRead(t, text, s.node)
		if t.Failed() {
			return
		}
		if !tooLarge(s) && impl.Tokens(s.text).Code == impl.OK {
			wantShown(t, impl.ScriptRead(text).Node, s.text)
		}
		read++
	}
	if read < 4000 {
		t.Errorf("only %d programs are read", read)
	}
}
