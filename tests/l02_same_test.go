package tests

import (
	"testing"

	"loop.example/g00317/impl"
)

func wantSame(t *testing.T, a impl.Node, b impl.Node, want bool) {
	t.Helper()
	if impl.NodeSame(a, b) != want || impl.NodeSame(b, a) != want {
		t.Errorf("NodeSame is not %v of %+v and %+v", want, a, b)
	}
}

// changes has what differs from n in one field of it alone.
func changes(n impl.Node) []impl.Node {
	var out []impl.Node
	add := func(change func(*impl.Node)) {
		other := copied(n)
		change(&other)
		out = append(out, other)
	}
	add(func(o *impl.Node) { o.Kind++ })
	add(func(o *impl.Node) { o.Kind += 1 << 32 })
	add(func(o *impl.Node) { o.Text += "x" })
	add(func(o *impl.Node) { o.Num++ })
	add(func(o *impl.Node) { o.Num -= 1 << 32 })
	add(func(o *impl.Node) { o.Strict = !o.Strict })
	add(func(o *impl.Node) { o.Names = append(o.Names, "") })
	add(func(o *impl.Node) { o.Names = append([]string{"x"}, o.Names...) })
	add(func(o *impl.Node) { o.Kids = append(o.Kids, impl.Node{}) })
	add(func(o *impl.Node) { o.Kids = append([]impl.Node{{Kind: 1}}, o.Kids...) })
	for i := range n.Names {
		add(func(o *impl.Node) { o.Names[i] += "x" })
	}
	if len(n.Names) > 0 {
		add(func(o *impl.Node) { o.Names = o.Names[1:] })
	}
	if len(n.Kids) > 0 {
		add(func(o *impl.Node) { o.Kids = o.Kids[:len(o.Kids)-1] })
	}
	return out
}

func TestNodeSame(t *testing.T) {
	for _, p := range append(allSamples(), place{impl.Node{}, nil}, place{program(), nil}) {
		wantSame(t, p.program, copied(p.program), true)
		wantSame(t, p.node(), copied(p.node()), true)
		for _, other := range changes(p.node()) {
			wantSame(t, p.node(), other, false)
			wantSame(t, p.program, p.with(other), false)
		}
	}
	wantSame(t, program(ask(a), ask(b)), program(ask(b), ask(a)), false)
	wantSame(t, named(impl.NFunc, "", []string{"a", "b"}), named(impl.NFunc, "", []string{"b", "a"}), false)
}

// What is wrong is compared, too: no tree is refused.
func TestNodeSameOfDeepAndWideTrees(t *testing.T) {
	way := []int{0}
	for range 1000 {
		way = append(way, 1, 0)
	}
	n := one
	for range 1000 {
		n = tree(impl.SIf, "", a, tree(impl.SWhile, "", n), b)
	}
	deep := place{program(n), way}
	wantSame(t, deep.program, copied(deep.program), true)
	for _, other := range changes(deep.node()) {
		wantSame(t, deep.program, deep.with(other), false)
	}
	wide := program(empties(5000)...)
	wantSame(t, wide, copied(wide), true)
	for _, at := range []int{0, 1, 399, 400, 4999} {
		other := copied(wide)
		other.Kids[at].Num = 1
		wantSame(t, wide, other, false)
	}
	chain := impl.Node{}
	for range 1000000 {
		chain = impl.Node{Kids: []impl.Node{chain}}
	}
	other := impl.Node{Num: 1}
	for range 1000000 {
		other = impl.Node{Kids: []impl.Node{other}}
	}
	if impl.NodeSame(chain, other) || !impl.NodeSame(chain, chain) {
		t.Error("a long chain is not compared to its end")
	}
}

// One list of Kids may stand at many places: it is not gone through for each.
func TestNodeSameOfSharedLists(t *testing.T) {
	twice := func(inmost impl.Node) impl.Node {
		for range 200 {
			inmost = impl.Node{Kids: []impl.Node{inmost, inmost}}
		}
		return inmost
	}
	wantShared := func(a impl.Node, b impl.Node, want bool) {
		if impl.NodeSame(a, b) != want || impl.NodeSame(b, a) != want {
			t.Errorf("not %v", want)
		}
	}
	wantShared(twice(a), twice(a), true)
	wantShared(twice(a), twice(b), false)
	kids := []impl.Node{a, b}
	others := []impl.Node{a, one}
	wantSame(t, program(block(kids[:1]...), block(kids...)), program(block(others[:1]...), block(others...)), false)
	wantSame(t, program(block(kids...), block(kids[:1]...)), program(block(others...), block(others[:1]...)), false)
	wantSame(t, program(block(kids[:1]...), block(kids[:1]...)), program(block(others[:1]...), block(others[:1]...)), true)
	wantSame(t, program(block(kids...), block(kids[:1]...)), program(block(kids...), block(kids...)), false)
}

func TestAnEmptyListAndNoneAreTheSame(t *testing.T) {
	none := impl.Node{Kind: impl.NProgram, Kids: []impl.Node{{Kind: impl.SBlock}}}
	empty := impl.Node{Kind: impl.NProgram, Names: []string{}, Kids: []impl.Node{{Kind: impl.SBlock, Names: []string{}, Kids: []impl.Node{}}}}
	wantSame(t, none, empty, true)
	wantSame(t, impl.Node{}, impl.Node{Names: []string{}, Kids: []impl.Node{}}, true)
}

func wantCount(t *testing.T, n impl.Node, want int64) {
	t.Helper()
	if got := impl.NodeCount(n); got != want {
		t.Errorf("NodeCount: got %d, want %d", got, want)
	}
}

func TestNodeCount(t *testing.T) {
	wantCount(t, impl.Node{}, 1)
	wantCount(t, program(), 1)
	wantCount(t, program(ask(tree(impl.NBinary, "+", one, a))), 5)
	wantCount(t, program(named(impl.SVar, "", []string{"a", "b"}, impl.Node{}, one)), 4)
	wantCount(t, tree(99, "", tree(-1, ""), tree(77, "", impl.Node{})), 4)
	for n, want := range map[int]int64{998: 999, 999: 1000, 1000: 1000, 1001: 1000, 5000: 1000} {
		wantCount(t, program(empties(n)...), want)
	}
	for n, want := range map[int]int64{996: 998, 997: 999, 998: 1000, 999: 1000, 4000: 1000} {
		wantCount(t, nested(n, tree(impl.SEmpty, "")), want)
	}
	for n, want := range map[int]int64{331: 994, 332: 997, 333: 1000, 334: 1000, 3000: 1000} {
		var kids []impl.Node
		for range n {
			kids = append(kids, tree(impl.SThrow, "", a), a)
		}
		wantCount(t, program(kids...), want)
	}
	for i := range 4 {
		halves := program(block(empties(498)...), block(empties(497+i)...))
		wantCount(t, halves, min(998+int64(i), 1000))
	}
}
