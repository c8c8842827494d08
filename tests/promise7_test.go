package tests

import (
	"slices"
	"testing"

	"loop.example/g00317/impl"
)

// occurring goes through the tokens of a shown program for the names that
// occur, without its tree: where a shown text has a name, the tokens around it
// tell whether it does.
type occurring struct {
	tokens []impl.Token
	at     int
	names  []string
	open   []bool // of each bracket that is open, and of the program: is it within a var?
}

func (o *occurring) comes(text string) bool {
	token := o.tokens[o.at]
	return (token.Kind == impl.TWord || token.Kind == impl.TMark) && token.Text == text
}

func (o *occurring) past(text string) {
	for !o.comes(text) {
		o.at++
	}
	o.at++
}

// declared is a name of a var, which occurs if it has a value.
func (o *occurring) declared() {
	name := o.tokens[o.at].Text
	o.at++
	if o.comes("=") {
		o.names = append(o.names, name)
	}
}

func (o *occurring) step() {
	last := len(o.open) - 1
	token := o.tokens[o.at]
	o.at++
	if token.Kind == impl.TName {
		o.names = append(o.names, token.Text)
		return
	}
	if token.Kind != impl.TWord && token.Kind != impl.TMark {
		return
	}
	switch token.Text {
	case "function", "catch":
		o.past(")")
	case ".":
		o.at++
	case "for":
		o.past("(")
		o.open = append(o.open, false)
		if o.comes("var") {
			o.at++
		}
	case "var":
		o.open[last] = true
		o.declared()
	case ",":
		if o.open[last] {
			o.declared()
		}
	case ";":
		o.open[last] = false
	case "(", "[", "{":
		o.open = append(o.open, false)
	case ")", "]", "}":
		o.open = o.open[:last]
	}
}

// namesOccurring are the names that occur in a shown program, in their order.
func namesOccurring(shown string) []string {
	o := &occurring{tokens: impl.Tokens(shown).Tokens, open: []bool{false}}
	for o.tokens[o.at].Kind != impl.TEnd {
		o.step()
	}
	return o.names
}

func wantEachOccurrence(t *testing.T, n impl.Node) int {
	t.Helper()
	shown := impl.Show(n)
	out := impl.Addresses(n)
	var names []string
	for _, a := range out.List {
		names = append(names, a.Name)
		if a.Up < 0 || a.At < 0 || !a.Slot && (a.Up != 0 || a.At != 0) {
			t.Errorf("%s: an address %+v", shown, a)
		}
	}
	if want := namesOccurring(shown); out.Code != impl.OK || !slices.Equal(names, want) {
		t.Errorf("%s\ngot %d %v, want %v", shown, out.Code, names, want)
	}
	return len(names)
}

// Programs with eval and arguments among their names.
func (w *writer) scoped() impl.Node {
	n := w.program().node
	w.respell(&n)
	return n
}

func (w *writer) respell(n *impl.Node) {
	n.Text = w.respelt(n.Kind, n.Text)
	for i := range n.Names {
		n.Names[i] = w.respelt(n.Kind, n.Names[i])
	}
	for i := range n.Kids {
		w.respell(&n.Kids[i])
	}
	if n.Kind == impl.NCall && w.below(3) == 0 {
		n.Kids[0] = nameNode("eval")
	}
}

// respelt makes names meet one another more often.
func (w *writer) respelt(kind int64, name string) string {
	if kind == impl.NText || !impl.NameRight(name) {
		return name
	}
	switch name {
	case "use":
		return "arguments"
	case "strict":
		return "eval"
	case "abcdefghijklmnopqrst", "$":
		return "x1"
	}
	return name
}

func TestEachOccurrenceHasAnAddress(t *testing.T) {
	w := &writer{draws: draws{state: 7}}
	programs, occurrences := 0, 0
	for range 4000 {
		n := w.scoped()
		if impl.Show(n) == "" {
			continue
		}
		programs++
		occurrences += wantEachOccurrence(t, n)
		if t.Failed() {
			return
		}
	}
	if programs < 1500 || occurrences < 15000 {
		t.Errorf("only %d programs with %d occurrences", programs, occurrences)
	}
	for _, text := range readable() {
		wantEachOccurrence(t, treeOf(t, text))
	}
}

// As many as 600 tokens have room for.
func TestManyOccurrencesHaveAddresses(t *testing.T) {
	var kids []impl.Node
	for range 149 {
		kids = append(kids, ask(a))
	}
	if got := wantEachOccurrence(t, program(kids...)); got != 149 {
		t.Errorf("%d occurrences", got)
	}
	row := named(impl.SVar, "", nil)
	for range 149 {
		row.Names, row.Kids = append(row.Names, "a"), append(row.Kids, b)
	}
	if got := wantEachOccurrence(t, program(row)); got != 298 {
		t.Errorf("%d occurrences in a var", got)
	}
	head := a
	for range 30 {
		head = call(member(head, "a"), a)
	}
	wantRefused(t, "too deep", program(ask(head)))
}
