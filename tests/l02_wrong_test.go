package tests

import (
	"testing"

	"loop.example/g00317/impl"
)

// has is the fields that a Node of a kind has, and how few and many Kids.
type has struct {
	text, num, names, strict bool
	least, most              int
}

const many = 100

var kindHas = map[int64]has{
	impl.NNum:      {num: true},
	impl.NText:     {text: true},
	impl.NWord:     {text: true},
	impl.NName:     {text: true},
	impl.NFunc:     {names: true, strict: true, most: many},
	impl.NObject:   {names: true, most: many},
	impl.NMember:   {text: true, least: 1, most: 1},
	impl.NIndex:    {least: 2, most: 2},
	impl.NCall:     {least: 1, most: many},
	impl.NNew:      {least: 1, most: many},
	impl.NUnary:    {text: true, least: 1, most: 1},
	impl.NBinary:   {text: true, least: 2, most: 2},
	impl.NCond:     {least: 3, most: 3},
	impl.NAssign:   {least: 2, most: 2},
	impl.SExpr:     {least: 1, most: 1},
	impl.SVar:      {names: true, most: many},
	impl.SFunc:     {text: true, names: true, strict: true, most: many},
	impl.SReturn:   {most: 1},
	impl.SIf:       {least: 2, most: 3},
	impl.SWhile:    {least: 2, most: 2},
	impl.SFor:      {text: true, num: true, least: 2, most: 2},
	impl.SBreak:    {},
	impl.SContinue: {},
	impl.SWith:     {least: 2, most: 2},
	impl.SThrow:    {least: 1, most: 1},
	impl.STry:      {text: true, num: true, least: 2, most: 3},
	impl.SBlock:    {most: many},
	impl.SEmpty:    {},
}

// allSamples has a right program for each kind, and the way to a Node of it.
func allSamples() []place {
	var out []place
	for _, s := range expressionSamples() {
		out = append(out, place{program(ask(s.node)), []int{0, 0}})
	}
	out = append(out, place{program(ask(tree(impl.NBinary, "+", a, b))), []int{0, 0}})
	for _, s := range statementSamples() {
		out = append(out, place{program(s.node), []int{0}})
	}
	return append(out,
		place{program(tree(impl.SWhile, "", a, block(tree(impl.SBreak, "")))), []int{0, 1, 0}},
		place{program(tree(impl.SWhile, "", a, block(tree(impl.SContinue, "")))), []int{0, 1, 0}},
		place{program(named(impl.SFunc, "f", nil, tree(impl.SReturn, ""))), []int{0, 0}},
		place{program(named(impl.SFunc, "f", nil, tree(impl.SReturn, "", a))), []int{0, 0}},
	)
}

// place is a Node in a program.
type place struct {
	program impl.Node
	way     []int
}

func (p place) node() impl.Node {
	n := p.program
	for _, i := range p.way {
		n = n.Kids[i]
	}
	return n
}

// with is the program with another Node at the place.
func (p place) with(n impl.Node) impl.Node {
	out := copied(p.program)
	at := &out
	for _, i := range p.way {
		at = &at.Kids[i]
	}
	*at = n
	return out
}

func TestEachKindIsSpoilt(t *testing.T) {
	met := map[int64]bool{}
	for _, p := range allSamples() {
		if impl.Show(p.program) == "" {
			t.Errorf("%+v is not shown", p.program)
		}
		met[p.node().Kind] = true
	}
	for kind := range kindHas {
		if !met[kind] {
			t.Errorf("no sample of kind %d", kind)
		}
	}
}

func TestFieldsThatAKindHasNot(t *testing.T) {
	for _, p := range allSamples() {
		has := kindHas[p.node().Kind]
		if n := p.node(); !has.text || n.Kind == impl.STry && n.Num == 2 {
			n.Text = "a"
			wantShown(t, p.with(n), "")
		}
		for _, num := range []int64{-1, 1} {
			if n := p.node(); !has.num {
				n.Num = num
				wantShown(t, p.with(n), "")
			}
		}
		if n := p.node(); !has.names {
			n.Names = []string{"a"}
			wantShown(t, p.with(n), "")
			n.Names = []string{}
			wantShown(t, p.with(n), impl.Show(p.program))
		}
		if n := p.node(); !has.strict {
			n.Strict = true
			wantShown(t, p.with(n), "")
		}
	}
	for _, n := range []impl.Node{
		{Kind: impl.NProgram, Text: "a"},
		{Kind: impl.NProgram, Num: 1},
		{Kind: impl.NProgram, Names: []string{"a"}},
	} {
		n.Kids = []impl.Node{ask(a)}
		wantShown(t, n, "")
	}
}

func TestNumsThatAKindHasNot(t *testing.T) {
	for _, num := range []int64{-1, 2, 3, 1 << 40} {
		wantShown(t, program(numbered(impl.SFor, "a", num, a, block())), "")
	}
	for _, num := range []int64{-1, 0, 4, 1 << 40} {
		wantShown(t, program(numbered(impl.STry, "a", num, block(), block())), "")
		wantShown(t, program(numbered(impl.STry, "", num, block(), block())), "")
		wantShown(t, program(numbered(impl.STry, "a", num, block(), block(), block())), "")
	}
	wantShown(t, program(numbered(impl.STry, "a", 1, block(), block(), block())), "")
	wantShown(t, program(numbered(impl.STry, "", 2, block(), block(), block())), "")
	wantShown(t, program(numbered(impl.STry, "a", 2, block(), block())), "")
	wantShown(t, program(numbered(impl.STry, "a", 3, block(), block())), "")
	wantShown(t, program(numbered(impl.STry, "", 3, block(), block(), block())), "")
}

// nodeOf is a Node with as many Kids, of the kinds that belong there.
func nodeOf(p place, kids int) impl.Node {
	n := copied(p.node())
	for len(n.Kids) > kids {
		n.Kids = n.Kids[:len(n.Kids)-1]
	}
	for len(n.Kids) < kids {
		kid := a
		switch n.Kind {
		case impl.SIf, impl.SWhile, impl.SFor, impl.SWith, impl.STry:
			kid = block()
		}
		n.Kids = append(n.Kids, kid)
	}
	return n
}

func TestTooFewAndTooManyKids(t *testing.T) {
	for _, p := range allSamples() {
		has := kindHas[p.node().Kind]
		for kids := range has.least {
			wantShown(t, p.with(nodeOf(p, kids)), "")
		}
		for more := range 3 {
			if has.most != many {
				wantShown(t, p.with(nodeOf(p, has.most+1+more)), "")
			}
		}
		if n := p.node(); n.Kind == impl.NObject || n.Kind == impl.SVar {
			wantShown(t, p.with(nodeOf(p, len(n.Kids)+1)), "")
			n.Names = append(append([]string{}, n.Names...), "x")
			wantShown(t, p.with(n), "")
		}
	}
	wantShown(t, program(ask(named(impl.NObject, "", []string{"a", "b"}, a))), "")
	wantShown(t, program(named(impl.SVar, "", nil)), "")
	wantShown(t, program(named(impl.SVar, "", nil, a)), "")
	wantShown(t, program(named(impl.SVar, "", []string{"a", "b"}, a)), "")
}

// Each Kid of each sample is put out of its place by what belongs elsewhere.
func TestKidsWhereTheyDoNotBelong(t *testing.T) {
	strange := []impl.Node{{}, program(), program(ask(a))}
	for _, kind := range []int64{-1, 15, 16, 19, 34, 39, 41, 1000, 1 << 40, -1 << 63} {
		strange = append(strange, tree(kind, ""), tree(kind, "a"), tree(kind, "", a))
	}
	for _, p := range allSamples() {
		n := p.node()
		for i, kid := range n.Kids {
			wrong := strange
			if n.Kind == impl.SVar {
				wrong = strange[1:]
			}
			if kid.Kind < impl.SExpr {
				wrong = append(wrong, tree(impl.SEmpty, ""), block(), ask(a))
			} else {
				wrong = append(wrong, a, one, named(impl.NFunc, "", nil))
			}
			for _, other := range wrong {
				spoilt := copied(n)
				spoilt.Kids[i] = other
				wantShown(t, p.with(spoilt), "")
			}
			if kid.Kind == impl.SBlock && n.Kind != impl.SBlock {
				spoilt := copied(n)
				spoilt.Kids[i] = tree(impl.SEmpty, "")
				wantShown(t, p.with(spoilt), "")
			}
		}
	}
}

func TestWhatMayBeWritten(t *testing.T) {
	for _, s := range expressionSamples() {
		n := program(ask(tree(impl.NAssign, "", s.node, one)))
		switch s.node.Kind {
		case impl.NName, impl.NMember, impl.NIndex:
			wantShown(t, n, "(("+s.text+" = 1));")
		default:
			wantShown(t, n, "")
		}
	}
	wantShown(t, program(ask(tree(impl.NAssign, "", tree(impl.NBinary, "+", a, b), one))), "")
}

func TestNoValueIsAllZero(t *testing.T) {
	for _, wrong := range []impl.Node{
		{Text: "a"}, {Num: 1}, {Num: -1}, {Names: []string{"a"}}, {Strict: true}, {Kids: []impl.Node{a}}, {Kids: []impl.Node{{}}},
	} {
		wantShown(t, program(named(impl.SVar, "", []string{"a"}, wrong)), "")
		wantShown(t, program(named(impl.SVar, "", []string{"a", "b"}, one, wrong)), "")
	}
	empty := impl.Node{Names: []string{}, Kids: []impl.Node{}}
	wantShown(t, program(named(impl.SVar, "", []string{"a"}, empty)), "var a;")
}

func TestShowOfWhatIsNoProgram(t *testing.T) {
	wantShown(t, impl.Node{}, "")
	for _, s := range append(expressionSamples(), statementSamples()...) {
		wantShown(t, s.node, "")
	}
	for _, kind := range []int64{-1, 0, 15, 34, 39, 41} {
		wantShown(t, tree(kind, "", ask(a)), "")
	}
}

// A tree may stand within itself; the call answers all the same.
func TestTreesWithinThemselves(t *testing.T) {
	kids := make([]impl.Node, 2)
	kids[0] = impl.Node{Kind: impl.SBlock, Kids: kids}
	kids[1] = impl.Node{Kind: impl.SBlock, Kids: kids}
	loop := impl.Node{Kind: impl.NProgram, Kids: kids}
	if got := impl.Show(loop); got != "" {
		t.Errorf("shown as %q", got)
	}
	if got := impl.NodeCount(loop); got != 1000 {
		t.Errorf("counted %d", got)
	}
	others := make([]impl.Node, 2)
	others[0] = impl.Node{Kind: impl.SBlock, Kids: others}
	others[1] = impl.Node{Kind: impl.SBlock, Kids: others}
	other := impl.Node{Kind: impl.NProgram, Kids: others}
	if !impl.NodeSame(loop, loop) || !impl.NodeSame(loop, other) || !impl.NodeSame(other, loop) {
		t.Error("not the same")
	}
	others[1].Text = "a"
	if impl.NodeSame(loop, other) || impl.NodeSame(other, loop) {
		t.Error("the same")
	}
}
