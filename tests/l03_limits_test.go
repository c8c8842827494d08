package tests

import (
	"reflect"
	"strings"
	"testing"

	"loop.example/g00317/impl"
)

func depth(n impl.Node) int {
	deepest := 0
	for _, kid := range n.Kids {
		deepest = max(deepest, depth(kid))
	}
	return deepest + 1
}

// layers has ways to lay one thing around another: ahead of it, behind it, what is
// inmost, how deep that lies alone, and how many Nodes deeper each layer puts it.
var layers = []struct {
	ahead, inmost, behind string
	alone, each           int
}{
	{"{", "", "}", 1, 1},
	{"{", ";", "}", 2, 1},
	{"{", "a", "}", 3, 1},
	{"{", "var a", "}", 3, 1},
	{"{", "var a = 1", "}", 3, 1},
	{"{", "throw a.b", "}", 4, 1},
	{"!", "a", "", 3, 1},
	{"-", "1", "", 3, 1},
	{"typeof ", "a", "", 3, 1},
	{"", "a", ".b", 3, 1},
	{"", "a", "[b]", 3, 1},
	{"", "a", "()", 3, 1},
	{"", "a", "(b)", 3, 1},
	{"", "a", ".b[c](d)", 3, 3},
	{"a[", "b", "]", 3, 1},
	{"a(", "b", ")", 3, 1},
	{"a(b, ", "c", ")", 3, 1},
	{"new a(", "b", ")", 3, 1},
	{"new (", "a", ")()", 3, 1},
	{"", "a", " + b", 3, 1},
	{"a + (", "b", ")", 3, 1},
	{"a = ", "b", "", 3, 1},
	{"a.b = ", "c", "", 4, 1},
	{"a ? ", "b", " : c", 3, 1},
	{"a ? b : ", "c", "", 3, 1},
	{"if (a) ", "b", "", 3, 2},
	{"if (a) {} else ", "b", "", 3, 2},
	{"if (a) {", "b", "} else {}", 3, 2},
	{"while (a) ", ";", "", 2, 2},
	{"for (a in b) {", "", "}", 1, 2},
	{"with (a) ", "b", "", 3, 2},
	{"try {", "", "} finally {}", 1, 2},
	{"try {} catch (a) {", "b", "}", 3, 2},
	{"try {} catch (a) {} finally {", "b", "}", 3, 2},
	{"function f() {", "", "}", 1, 1},
	{"function f() {", "return a", "}", 3, 1},
	{"a = {b: ", "c", "}", 3, 2},
	{"a = function () {", "", "}", 1, 3},
}

func TestDeepScripts(t *testing.T) {
	for _, layer := range layers {
		if layer.inmost == "return a" {
			wantWrong(t, impl.ErrEarly, "^return a")
		}
		for n := 1; n <= 60; n++ {
			text := strings.Repeat(layer.ahead, n) + layer.inmost + strings.Repeat(layer.behind, n)
			if impl.Tokens(text).Code != impl.OK {
				break
			}
			want := layer.alone + n*layer.each
			if want > impl.MaxDeep {
				wantCode(t, text, impl.ErrFull, 0)
				wantCode(t, " "+text+"\n\n", impl.ErrFull, 0)
				continue
			}
			got := impl.ScriptRead(text)
			if got.Code != impl.OK || depth(got.Node) != want {
				t.Errorf("%q: got %+v, deep %d, want %d", text, got, depth(got.Node), want)
			}
		}
	}
}

// What is no Node is no deeper.
func TestParenthesesAreNotDeep(t *testing.T) {
	wantRead(t, strings.Repeat("(", 299)+"a"+strings.Repeat(")", 299), program(ask(a)))
	wantRead(t, "throw "+strings.Repeat("(", 250)+"a.b"+strings.Repeat(")", 250)+" = 1",
		program(tree(impl.SThrow, "", tree(impl.NAssign, "", member(a, "b"), one))))
	wantWrong(t, impl.ErrSyntax, strings.Repeat("(", 600)+"^")
	wantWrong(t, impl.ErrSyntax, strings.Repeat("(", 300)+"a"+strings.Repeat(")", 299)+"^")
	wantWrong(t, impl.ErrSyntax, strings.Repeat("{", 600)+"^")
	wantWrong(t, impl.ErrSyntax, strings.Repeat("a[", 300)+"^")
	wantWrong(t, impl.ErrSyntax, strings.Repeat("!", 600)+"^")
	wantWrong(t, impl.ErrSyntax, strings.Repeat("a=", 300)+"^")
	wantWrong(t, impl.ErrSyntax, strings.Repeat("a?", 300)+"^")
	wantWrong(t, impl.ErrSyntax, strings.Repeat("if(a)", 150)+"^")
	wantWrong(t, impl.ErrSyntax, strings.Repeat("a+(", 199)+"^")
}

// All else that is wrong is named ahead of what is too deep.
func TestWhatIsTooDeepIsToldLast(t *testing.T) {
	for _, deep := range []string{
		strings.Repeat("{", 50) + strings.Repeat("}", 50), strings.Repeat("!", 50) + "a;",
		"a" + strings.Repeat(".b", 50) + ";", strings.Repeat("function f() {", 50) + strings.Repeat("}", 50),
	} {
		wantCode(t, deep, impl.ErrFull, 0)
		wantWrong(t, impl.ErrSyntax, deep+" ^)")
		wantWrong(t, impl.ErrSyntax, "^) "+deep)
		wantWrong(t, impl.ErrEarly, deep+" ^return")
		wantWrong(t, impl.ErrEarly, "^break; "+deep)
		wantWrong(t, impl.ErrEarly, deep+" function f(a, ^a) {\"use strict\"}")
		wantWrong(t, impl.ErrEarly, "\"use strict\"; "+deep+" ^delete a")
		wantWrong(t, impl.ErrSyntax, deep+" ^@")
	}
	wantWrong(t, impl.ErrSyntax, strings.Repeat("{", 50)+"^")
	wantWrong(t, impl.ErrSyntax, strings.Repeat("!", 50)+"^")
	wantWrong(t, impl.ErrEarly, strings.Repeat("{", 50)+"^return")
	wantWrong(t, impl.ErrEarly, strings.Repeat("{", 50)+"^function f() {}"+strings.Repeat("}", 50))
}

// grow puts something behind the end of each list, where another one may begin.
func grow(n *impl.Node) {
	_ = append(n.Kids, impl.Node{Kind: 99, Text: "spoilt"})
	_ = append(n.Names, "spoilt")
	for i := range n.Kids {
		grow(&n.Kids[i])
	}
}

func spoilAll(n *impl.Node) {
	for i := range n.Names {
		n.Names[i] = "spoilt"
	}
	for i := range n.Kids {
		spoilAll(&n.Kids[i])
		n.Kids[i] = impl.Node{Kind: 99}
	}
}

func TestWhatIsReadIsNewMemory(t *testing.T) {
	for _, text := range readable() {
		first, second := impl.ScriptRead(text), impl.ScriptRead(text)
		before := copied(first.Node)
		grow(&first.Node)
		if !impl.NodeSame(first.Node, before) {
			t.Errorf("%q: two lists share memory", text)
		}
		spoilAll(&first.Node)
		if !reflect.DeepEqual(copied(second.Node), before) || !reflect.DeepEqual(impl.ScriptRead(text), second) {
			t.Errorf("%q: read otherwise the second time", text)
		}
	}
}

// soup is a row of tokens that may be a program, but seldom is.
func (d *draws) soup() string {
	words := strings.Fields("a b c eval arguments 1 \"t\" \"use_strict\" ( ) { } [ ] ; , . = + - ! ? : in var function if else " +
		"while for return break continue with throw try catch finally new delete typeof this ( ) ( ) { } { } ; ; a a")
	var text strings.Builder
	for range d.below(14) {
		word := strings.Replace(words[d.below(len(words))], "_", " ", 1)
		text.WriteString(word + []string{" ", " ", "\n"}[d.below(3)])
	}
	return text.String()
}

// pieces joins pieces of programs, so that what is wrong comes late.
func (d *draws) pieces() string {
	list := []string{
		"function f(a, b) {", "(function (eval) {", "})", "}", "{", "while (a)", "if (a)", "else",
		"try {", "} catch (e) {", "} finally {", "for (var a in", "for (b in",
		"a)", "a;", "b\n", "\"use strict\"", "\"use strict\";", "\"use strict\"\n",
		"with (a)", "delete a", "eval = 1", "return a\n", "break;", "continue\n",
		"var a = 1,", "var b;", "throw", "new a", "(b)", ".c", "[1]", "+", "=",
		"{a: 1,", "b: 2}", ";",
	}
	var text strings.Builder
	for range d.below(12) {
		text.WriteString(list[d.below(len(list))] + " ")
	}
	return text.String()
}

// TestSoups holds what is told against itself: up to the token that can't stand
// there all could, and what is behind it is nothing to it.
func TestSoups(t *testing.T) {
	d := &draws{state: 31}
	codes := map[int64]int{}
	for i := range 60000 {
		text := d.soup()
		if i%2 == 0 {
			text = d.pieces()
		}
		got := impl.ScriptRead(text)
		codes[got.Code]++
		if got.Code == impl.OK {
			if got.At != 0 || got.Node.Kind != impl.NProgram || impl.Show(got.Node) == "" && len(got.Node.Kids) > 0 && !callsInNew(got.Node) {
				t.Fatalf("%q: got %+v", text, got)
			}
			continue
		}
		if !impl.NodeSame(got.Node, impl.Node{}) {
			t.Fatalf("%q: got %+v", text, got)
		}
		wantSameFault(t, text, got)
		if t.Failed() {
			return
		}
	}
	for _, code := range []int64{impl.OK, impl.ErrSyntax, impl.ErrEarly} {
		if codes[code] < 2000 {
			t.Errorf("only %d of the code %d", codes[code], code)
		}
	}
}

func callsInNew(n impl.Node) bool {
	if n.Kind == impl.NNew && headCalls(n.Kids[0]) {
		return true
	}
	for _, kid := range n.Kids {
		if callsInNew(kid) {
			return true
		}
	}
	return false
}

func wantSameFault(t *testing.T, text string, got impl.ScriptOut) {
	t.Helper()
	tokens := impl.Tokens(text).Tokens
	at := -1
	for i, token := range tokens {
		if token.At == got.At {
			at = i
		}
	}
	if at < 0 {
		t.Errorf("%q: At of no token in %+v", text, got)
		return
	}
	if got.Code != impl.ErrSyntax {
		return
	}
	ahead := text[:got.At]
	if before := impl.ScriptRead(ahead); before.Code == impl.ErrSyntax && int(before.At) < len(ahead) {
		t.Errorf("%q: got %+v, but %q is wrong as it is: %+v", text, got, ahead, before)
	}
	if tokens[at].Kind != impl.TEnd {
		behind := text[:tokens[at+1].At] + " "
		wantCode(t, behind+") ]", got.Code, int(got.At))
		wantCode(t, behind+"a\nreturn", got.Code, int(got.At))
	}
}
