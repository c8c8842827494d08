package tests

import (
	"slices"
	"strings"
	"testing"

	"loop.example/g00317/impl"
)

// around is what a Node stands in, and as which Kid of it.
type around struct {
	node impl.Node
	kid  int
}

// modelNames are the names of a function by the document's words, gone through by itself.
func modelNames(n impl.Node) []string {
	names := slices.Clone(n.Names)
	if !slices.Contains(names, "arguments") {
		names = append(names, "arguments")
	}
	var within func(kid impl.Node, outmost bool)
	within = func(kid impl.Node, outmost bool) {
		switch {
		case kid.Kind == impl.SFunc && outmost, kid.Kind == impl.SFor && kid.Num == 1:
			names = append(names, kid.Text)
		case kid.Kind == impl.SVar:
			names = append(names, kid.Names...)
		}
		if kid.Kind != impl.SFunc && kid.Kind != impl.NFunc {
			for _, next := range kid.Kids {
				within(next, false)
			}
		}
	}
	for _, kid := range n.Kids {
		within(kid, true)
	}
	var out []string
	for _, name := range names {
		if !slices.Contains(out, name) {
			out = append(out, name)
		}
	}
	return out
}

func modelCallsEval(kids []impl.Node) bool {
	return slices.ContainsFunc(kids, func(n impl.Node) bool {
		if n.Kind == impl.NFunc || n.Kind == impl.SFunc {
			return false
		}
		return n.Kind == impl.NCall && impl.NodeSame(n.Kids[0], nameNode("eval")) || modelCallsEval(n.Kids)
	})
}

// modelAddress goes outwards from an occurrence.
func modelAddress(name string, way []around) impl.Address {
	up := int64(0)
	for i := len(way) - 1; i >= 0; i-- {
		n := way[i].node
		switch {
		case n.Kind == impl.SWith && way[i].kid == 1:
			return impl.Address{Name: name}
		case n.Kind == impl.STry && n.Num != 2 && way[i].kid == 1:
			if n.Text == name {
				return impl.Address{Name: name, Slot: true, Up: up}
			}
			up++
		case n.Kind == impl.NFunc || n.Kind == impl.SFunc:
			if at := slices.Index(modelNames(n), name); at >= 0 {
				return impl.Address{Name: name, Slot: true, Up: up, At: int64(at)}
			}
			if !n.Strict && modelCallsEval(n.Kids) {
				return impl.Address{Name: name}
			}
			up++
		}
	}
	return impl.Address{Name: name}
}

// model has the addresses of what is in n, which stands in way.
func model(n impl.Node, way []around) []impl.Address {
	var out []impl.Address
	if n.Kind == impl.NName || n.Kind == impl.SFor {
		out = append(out, modelAddress(n.Text, way))
	}
	for i, kid := range n.Kids {
		if n.Kind == impl.SVar && kid.Kind != 0 {
			out = append(out, modelAddress(n.Names[i], way))
		}
		out = append(out, model(kid, append(way[:len(way):len(way)], around{n, i}))...)
	}
	return out
}

func modelTexts(n impl.Node) []string {
	return addressTexts(model(n, nil))
}

func TestAddressesAreThoseThatAreFoundOutwards(t *testing.T) {
	w := &writer{draws: draws{state: 8}}
	programs, ups, slots, none := 0, 0, 0, 0
	for range 4000 {
		n := w.scoped()
		if impl.Show(n) == "" {
			continue
		}
		programs++
		list := impl.Addresses(n).List
		if got, want := addressTexts(list), modelTexts(n); !slices.Equal(got, want) {
			t.Fatalf("%s\ngot %v,\nwant %v", impl.Show(n), got, want)
		}
		for _, a := range list {
			switch {
			case a.Up > 0:
				ups++
			case a.Slot:
				slots++
			default:
				none++
			}
		}
	}
	if programs < 1500 || ups < 300 || slots < 1000 || none < 5000 {
		t.Errorf("%d programs, %d names further out, %d of the function, %d without a slot", programs, ups, slots, none)
	}
}

// lastAddress is that of the last occurrence of a script.
func lastAddress(t *testing.T, text string) string {
	t.Helper()
	list := impl.Addresses(treeOf(t, text)).List
	return addressText(list[len(list)-1])
}

// wrapped is inmost in so many functions, the one of the number marked by mark in it.
func wrapped(functions int, marked int, mark string, inmost string) string {
	text := inmost
	for i := range functions {
		text = "return function (p" + decimal(i) + ") {" + text + "}"
		if i == marked {
			text = strings.ReplaceAll(mark, "@", text)
		}
	}
	return text
}

func TestANameStandsAsManyFunctionsUp(t *testing.T) {
	for functions := range 15 {
		for _, c := range [][2]string{{"x", "0"}, {"y", "1"}, {"z", "2"}, {"v", "4"}, {"w", "5"}} {
			text := "function f(x, y, z) { var v; function w() {}" + wrapped(functions, -1, "", c[0]) + "}"
			if got, want := lastAddress(t, text), c[0]+":"+decimal(functions)+"."+c[1]; got != want {
				t.Errorf("%s\ngot %s, want %s", text, got, want)
			}
			if got := lastAddress(t, "var x, y, z, v, w;"+strings.Replace(text, "f(x, y, z) { var v; function w() {}", "f() {", 1)); got != c[0] {
				t.Errorf("%s: of the program, %s", text, got)
			}
		}
		strictly := "function f(x) { \"use strict\"; eval(x);" + wrapped(functions, -1, "", "eval(x); x") + "}"
		if got, want := lastAddress(t, strictly), "x:"+decimal(functions)+".0"; got != want {
			t.Errorf("%s\ngot %s, want %s", strictly, got, want)
		}
	}
}

func TestANameBehindAnObjectHasNoSlot(t *testing.T) {
	for functions := range 11 {
		for marked := range functions {
			for _, c := range [][2]string{
				{"with (o) { @ }", "x"}, {"if (o) { with (o) @ }", "x"}, {"try {} catch (e) { with (e) { @ } }", "x"}, {"with (o) { try {} catch (e) { @ } }", "x"},
				{"try {} catch (x) { @ }", "x:" + decimal(marked+1) + ".0"}, {"try {} catch (e) { @ }", "x:" + decimal(functions+1) + ".0"},
				{"try { @ } catch (x) { }", "x:" + decimal(functions) + ".0"}, {"try { } catch (x) { } finally { @ }", "x:" + decimal(functions) + ".0"},
				{"with (o) { } @", "x:" + decimal(functions) + ".0"}, {"{ @ }", "x:" + decimal(functions) + ".0"},
			} {
				text := "function f(x) {" + wrapped(functions, marked, c[0], "x") + "}"
				if got := lastAddress(t, text); got != c[1] {
					t.Errorf("%s\ngot %s, want %s", text, got, c[1])
				}
			}
			brought := "function f(x) {" + wrapped(functions, marked, "return function () { eval(o); @ }", "x") + "}"
			if got := lastAddress(t, brought); got != "x" {
				t.Errorf("%s\ngot %s", brought, got)
			}
		}
	}
	if got := lastAddress(t, "function f(x) { with (o) { x } }"); got != "x" {
		t.Errorf("in the function itself %s", got)
	}
}

// put is an expression that stands as it did, with something put between, and
// by how much what it finds further out moves; without a slot, if by less than 0.
type put struct {
	text  string
	ahead int
	up    int64
}

// between is e where @ is in the text of an expression.
func between(t *testing.T, text string, e impl.Node) impl.Node {
	t.Helper()
	outer := treeOf(t, "("+text+")")
	for _, p := range allPlaces(outer) {
		if impl.NodeSame(p.node(), nameNode("HERE")) {
			return p.with(e).Kids[0].Kids[0]
		}
	}
	t.Fatalf("%s has no place", text)
	return impl.Node{}
}

// isValue tells of places where any expression may stand.
func isValue(p place) bool {
	kind := p.node().Kind
	if kind == 0 || kind > impl.NAssign || len(p.way) == 0 {
		return false
	}
	last := len(p.way) - 1
	switch (place{p.program, p.way[:last]}).node().Kind {
	case impl.NAssign, impl.NCall, impl.NNew:
		return p.way[last] > 0
	case impl.NUnary:
		return false
	}
	return true
}

func TestWhatIsPutBetweenMovesNamesFurtherOut(t *testing.T) {
	w := &writer{draws: draws{state: 88}}
	puts := []put{
		{"(function () { return HERE })()", 0, 1}, {"(function () { \"use strict\"; return HERE })()", 0, 1}, {"(function (q) { return function () { return HERE } })", 0, 2},
		{"(function () { try {} catch (q) { return HERE } })()", 0, 2}, {"q ? HERE : 0", 1, 0}, {"(function () { if (q) return HERE })()", 1, 1},
		{"(function () { with (q) { return HERE } })()", 1, -1}, {"(function () { with (q) { return function () { return HERE } } })", 1, -1},
		{"(function () { eval(0); return HERE })()", 1, -1}, {"(function () { \"use strict\"; eval(0); return HERE })()", 1, 1},
	}
	moved := map[int64]int{}
	for range 500 {
		n := w.program().node
		places := slices.DeleteFunc(allPlaces(n), func(p place) bool { return !isValue(p) })
		if impl.Show(n) == "" || len(places) == 0 {
			continue
		}
		for range 20 {
			p, one := places[w.below(len(places))], puts[w.below(len(puts))]
			other := p.with(between(t, one.text, p.node()))
			if impl.Show(other) != "" { // else a loose function is in strict code, or it is too large
				moved[one.up] += wantMoved(t, p, one, other)
			}
		}
		if t.Failed() {
			return
		}
	}
	for _, up := range []int64{-1, 0, 1, 2} {
		if moved[up] < 40 {
			t.Errorf("only %d names are moved by %d", moved[up], up)
		}
	}
}

// wantMoved tells how many occurrences were asked about that find their names further out.
func wantMoved(t *testing.T, p place, one put, other impl.Node) int {
	t.Helper()
	first := len(model(before(p), nil))
	old, got := impl.Addresses(p.program).List, impl.Addresses(other).List
	alone := model(p.node(), nil)
	if len(got) != len(old)+one.ahead {
		t.Errorf("%s\nhas %d occurrences, not %d", impl.Show(other), len(got), len(old)+one.ahead)
		return 0
	}
	count := 0
	for i, a := range alone {
		was, is := old[first+i], got[first+one.ahead+i]
		if was.Slot && !a.Slot {
			count++
			was.Up += one.up
			if one.up < 0 {
				was = impl.Address{Name: was.Name}
			}
		}
		if is != was {
			t.Errorf("%s\nbecomes %s\n%+v is %+v", impl.Show(p.program), impl.Show(other), was, is)
		}
	}
	return count
}

// before is what stands ahead of the place.
func before(p place) impl.Node {
	n := copied(p.program)
	at := &n
	for _, i := range p.way {
		at.Kids = at.Kids[:i+1]
		if at.Kind == impl.SVar {
			at.Names = at.Names[:i+1]
		}
		at = &at.Kids[i]
	}
	*at = impl.Node{Kind: impl.SEmpty}
	return n
}
