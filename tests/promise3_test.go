package tests

import (
	"testing"

	"loop.example/g00317/impl"
)

// wantNothingOrItself tells whether the tree is shown at all.
func wantNothingOrItself(t *testing.T, n impl.Node) bool {
	t.Helper()
	text := impl.Show(n)
	if text == "" {
		return false
	}
	got := impl.ScriptRead(text)
	if got.Code != impl.OK || got.At != 0 || !impl.NodeSame(got.Node, n) {
		t.Errorf("%+v\nis shown as %q,\nwhich is read as %+v", n, text, got)
	}
	return true
}

// allPlaces has the way to each Node of a tree.
func allPlaces(n impl.Node) []place {
	out := []place{{program: n}}
	var walk func(kid impl.Node, way []int)
	walk = func(kid impl.Node, way []int) {
		for i, next := range kid.Kids {
			behind := append(way[:len(way):len(way)], i)
			out = append(out, place{program: n, way: behind})
			walk(next, behind)
		}
	}
	walk(n, nil)
	return out
}

// spoilt has what a Node becomes by being spoilt in one place.
func spoilt(n impl.Node) []impl.Node {
	var out []impl.Node
	add := func(spoil func(*impl.Node)) {
		other := copied(n)
		spoil(&other)
		out = append(out, other)
	}
	for kind := int64(-1); kind <= 41; kind++ {
		add(func(o *impl.Node) { o.Kind = kind })
	}
	for _, text := range []string{"", "a", "eval", "arguments", "use strict", "if", "this", "true", "1",
		"!", "-", "delete", "+", "in", "||", "=", "@", "a b", "\n", "\t"} {
		add(func(o *impl.Node) { o.Text = text })
	}
	add(func(o *impl.Node) { o.Text += "x" })
	for _, num := range []int64{-1, 0, 1, 2, 3, 4, 999999999999999, 1000000000000000} {
		add(func(o *impl.Node) { o.Num = num })
	}
	for _, name := range []string{"", "a", "eval", "if", "a b", "\t"} {
		add(func(o *impl.Node) { o.Names = append(o.Names, name) })
		add(func(o *impl.Node) { o.Names = append([]string{name}, o.Names...) })
	}
	if len(n.Names) > 0 {
		add(func(o *impl.Node) { o.Names = o.Names[1:] })
		add(func(o *impl.Node) { o.Names[0] = "eval" })
		add(func(o *impl.Node) { o.Names = append(o.Names, o.Names[0]) })
	}
	add(func(o *impl.Node) { o.Strict = !o.Strict })
	return append(out, spoiltKids(n)...)
}

func spoiltKids(n impl.Node) []impl.Node {
	var out []impl.Node
	with := func(kids ...impl.Node) {
		other := copied(n)
		other.Kids = kids
		out = append(out, other)
	}
	kids := n.Kids
	for _, kid := range []impl.Node{
		{}, a, one, call(a), tree(impl.SEmpty, ""), block(), ask(a), ask(textNode("use strict")), tree(impl.SBreak, ""), tree(impl.SReturn, ""),
		named(impl.SFunc, "f", nil), strict(named(impl.SFunc, "f", nil)), program(),
	} {
		with(append(kids[:len(kids):len(kids)], kid)...)
		with(append([]impl.Node{kid}, kids...)...)
		if len(kids) > 0 {
			with(append([]impl.Node{kid}, kids[1:]...)...)
		}
	}
	for i := range kids {
		with(append(kids[:i:i], kids[i+1:]...)...)
		with(append(kids[:i+1:i+1], kids[i:]...)...)
	}
	return out
}

func TestSpoiltTreesAreShownAsNothingOrAsThemselves(t *testing.T) {
	shown, refused := 0, 0
	for _, text := range append(readable(), "a()()", "a.b().c(d)", "a()[b](c)(d)", "new (a())()", "new (a().b)(c)",
		"while (a) { break; continue }", "function f() { while (a) { if (b) return; else break } }",
		"\"use strict\"; function f(a, b) { try { a = b } catch (c) { delete a.b } }") {
		read := impl.ScriptRead(text)
		if read.Code != impl.OK {
			t.Errorf("%q is not read: %+v", text, read)
		}
		for _, p := range allPlaces(read.Node) {
			for _, n := range spoilt(p.node()) {
				if wantNothingOrItself(t, p.with(n)) {
					shown++
				} else {
					refused++
				}
				if t.Failed() {
					return
				}
			}
		}
	}
	if shown < 10000 || refused < 10000 {
		t.Errorf("%d are shown, %d are not", shown, refused)
	}
}

func TestSpoiltProgramsAreShownAsNothingOrAsThemselves(t *testing.T) {
	w := &writer{draws: draws{state: 41}}
	for range 1500 {
		s := w.program()
		read := impl.ScriptRead(s.text)
		if read.Code != impl.OK {
			continue
		}
		places := allPlaces(read.Node)
		for range 20 {
			p := places[w.below(len(places))]
			list := spoilt(p.node())
			wantNothingOrItself(t, p.with(list[w.below(len(list))]))
		}
		if t.Failed() {
			return
		}
	}
}

// Each of these is as the table has it, and is not read.
func TestWhatMayNotBeReadIsNotShown(t *testing.T) {
	leave, next, back := tree(impl.SBreak, ""), tree(impl.SContinue, ""), tree(impl.SReturn, "")
	inner := named(impl.SFunc, "g", nil)
	for _, n := range []impl.Node{
		program(leave), program(next), program(back), program(tree(impl.SReturn, "", a)), program(block(leave)), program(tree(impl.SIf, "", a, block(next))),
		program(named(impl.SFunc, "f", nil, leave)), program(tree(impl.SWhile, "", a, block(ask(function(nil, next))))),
		program(tree(impl.SWhile, "", a, block(back))), program(block(inner)), program(tree(impl.SIf, "", a, block(), block(inner))),
		program(numbered(impl.STry, "", 2, block(inner), block())), program(named(impl.SFunc, "f", nil, block(inner))),
		strict(program(tree(impl.SWith, "", a, block()))), strict(program(ask(tree(impl.NUnary, "delete", a)))),
		strict(program(ask(tree(impl.NAssign, "", nameNode("eval"), one)))), strict(program(ask(tree(impl.NAssign, "", nameNode("arguments"), one)))),
		strict(program(named(impl.SVar, "", []string{"a", "eval"}, one, one))), strict(program(numbered(impl.SFor, "eval", 0, a, block()))),
		strict(program(numbered(impl.SFor, "arguments", 1, a, block()))), strict(program(numbered(impl.STry, "eval", 1, block(), block()))),
		program(strict(named(impl.SFunc, "eval", nil))), program(strict(named(impl.SFunc, "f", []string{"arguments"}))),
		program(strict(named(impl.SFunc, "f", []string{"a", "a"}))), program(ask(strict(function([]string{"a", "b", "a"})))),
		program(strict(named(impl.SFunc, "f", nil, tree(impl.SWith, "", a, block())))), program(ask(strict(function([]string{"eval"})))),
	} {
		wantShown(t, n, "")
	}
	many := named(impl.SFunc, "f", nil, tree(impl.SEmpty, ""))
	for range 297 {
		many.Names = append(many.Names, "a")
	}
	if !wantNothingOrItself(t, program(many)) {
		t.Error("600 tokens are not shown")
	}
	many.Names = append(many.Names, "a")
	if wantNothingOrItself(t, program(many)) {
		t.Error("more than 600 tokens are shown")
	}
}
