package tests

import (
	"slices"
	"strings"
	"testing"
	"unsafe"

	"loop.example/g00317/impl"
)

// wantTold holds what is told of a session, line by line; in want a byte | stands between lines.
func wantTold(t *testing.T, text string, want string) {
	t.Helper()
	lines := ""
	if want != "" {
		lines = strings.ReplaceAll(want, "|", "\n") + "\n"
	}
	wantDesk(t, text, impl.DeskOut{Text: lines})
}

func wantDesk(t *testing.T, text string, want impl.DeskOut) {
	t.Helper()
	if got := impl.SessionRun(text); got != want {
		t.Errorf("SessionRun(%.300q)\ngot  %.400q, %d\nwant %.400q, %d", text, got.Text, got.Code, want.Text, want.Code)
	}
}

// session puts programs together.
func session(programs ...string) string {
	return strings.Join(programs, "\n---\n")
}

// sessionOf is a model of what is told: it goes by RunAll, Globals and Quote.
func sessionOf(programs []string) impl.DeskOut {
	var text strings.Builder
	plain := strings.NewReplacer("\n", "\\n")
	for _, out := range impl.RunAll(programs, 3000) {
		for _, line := range out.Log {
			text.WriteString("> " + plain.Replace(line) + "\n")
		}
		told := impl.ToText(out.Value)
		if out.Value.Kind == impl.VText {
			told = impl.Quote(out.Value.Text)
		}
		switch {
		case out.Code != impl.OK:
			text.WriteString("error " + decimal(int(out.Code)) + "\n")
		case out.Threw:
			text.WriteString("threw " + told + "\n")
		default:
			text.WriteString("value " + told + "\n")
		}
	}
	for _, line := range impl.Globals(programs, 3000) {
		text.WriteString(plain.Replace(line) + "\n")
	}
	if text.Len() > 60000 {
		return impl.DeskOut{Code: impl.ErrSize}
	}
	return impl.DeskOut{Text: text.String()}
}

func TestSessionsOfPrograms(t *testing.T) {
	for _, c := range [][2]string{
		{"", "value undefined"}, {"\n", "value undefined"}, {"1", "value 1"}, {"1\n", "value 1"}, {"// 1", "value undefined"},
		// Parting lines at the ends leave empty programs, which run, too.
		{"---", "value undefined|value undefined"}, {"---\n", "value undefined|value undefined"}, {"---\n1", "value undefined|value 1"}, {"1\n---", "value 1|value undefined"}, {"1\n---\n", "value 1|value undefined"}, {"1\n---\n---\n2", "value 1|value undefined|value 2"},
		{session("var a = 4", "a + 1", "a = a + 2"), "value undefined|value 5|value 6|a=6"}, {session("a = 1", "delete a"), "value 1|value true"}, {session("var a = 1\nvar b = 2\n", "\n\na + b\n"), "value undefined|value 3|a=1|b=2"},
		{session("function f() { return n }", "f()", "n = 1; f()"), "value undefined|threw \"ReferenceError\"|value 1|f=[object]|n=1"}, {session("({})", "typeof this", "this"), "value [object]|value \"object\"|value [object]"},
		// Each is strict or loose by itself, and has its own Log.
		{session("\"use strict\"", "with ({a: 1}) a", "\"use strict\"; a = 1", "a = 1"), "value undefined|value 1|threw \"ReferenceError\"|value 1|a=1"}, {session("print(1); print(2)", "3", "print(4)"), "> 1|> 2|value undefined|value 3|> 4|value undefined"},
		// Lines that are nearly parting ones are of their program.
		{"1\n----\n2", "value 3"}, {"5\n--\n2", "value 7"}, {"1\n ---\n2", "value -1"}, {"1\n--- \n2", "value -1"}, {"\"a\"\n// ---\n\"b\"", "value \"b\""}, {"print(1)\n\t---1\n---\n2", "> 1|value NaN|value 2"},
	} {
		wantTold(t, c[0], c[1])
	}
}

// What throws, or is not read, doesn't keep the next ones from running; what ends all does.
func TestSessionsThatGoWrong(t *testing.T) {
	deep := strings.Repeat("!", 40) + "1"
	for _, c := range [][2]string{
		{session("var a = 1; throw a; a = 2", "a"), "threw 1|value 1|a=1"}, {session("none", "null.a", "1"), "threw \"ReferenceError\"|threw \"TypeError\"|value 1"}, {session("throw 1", "throw 2"), "threw 1|threw 2"}, {session("function f() { f() } f()", "1"), "threw \"RangeError\"|value 1|f=[object]"}, {session("eval(\"(\")", "1"), "threw \"SyntaxError\"|value 1"},
		{session("(", "1"), "error 3|value 1"}, {session("var a = 1", "a = 2; #", "return", "a"), "value undefined|error 3|error 4|value 1|a=1"}, {session("@", "break", "var", "\"use strict\"; delete a"), "error 3|error 4|error 3|error 4"}, {session("print(1); (", "2"), "error 3|value 2"},
		{session("print(1); a = 1; while (true) {}", "a = 2", "3"), "> 1|error 6|a=1"}, {session("a = 1", "while (true) a = a + 1; a", "a = 0"), "value 1|error 6|a=429"}, {session("print(1); a = 1; while (true) ({})", "a = 2", "3"), "> 1|error 7|a=1"}, {session("var a = 1", deep, "a = 2"), "value undefined|error 7|a=1"},
		{session("throw 1", "(", "return", "print(\"x\"); while (true) ;", "5"), "threw 1|error 3|error 4|> x|error 6"}, {session("while (true) {}", "1"), "error 6"}, {session("while (true) ({})"), "error 7"}, {session("try { while (true) {} } catch (e) { print(1) } finally { print(2) }", "1"), "error 6"},
		{session("var a", "while (true) ({})\n", ""), "value undefined|error 7|a=undefined"}, {session("var i = 0; while (i < 195) { i = i + 1; ({}) }", "i = 0; while (i < 195) { i = i + 1; ({}) }", "({}); ({}); ({})", "({}); ({}); ({}); ({})", "i = 1; ({}); i = 2", "i = 3"), "value [object]|value [object]|value [object]|value [object]|error 7|i=1"},
	} {
		wantTold(t, c[0], c[1])
	}
}

func TestHowManyProgramsRun(t *testing.T) {
	for count := 1; count <= 12; count++ {
		for _, program := range []string{"n = 1", "print(1)", "(", "throw 1", "", "while (true) {}"} {
			list := times(count, program)
			want := sessionOf(list)
			if count > 10 {
				want = impl.DeskOut{Code: impl.ErrForm}
			}
			wantDesk(t, session(list...), want)
		}
	}
	wantTold(t, session(times(10, "n")...), strings.Repeat("threw \"ReferenceError\"|", 9)+"threw \"ReferenceError\"")
	wantTold(t, session(append([]string{"var n = 0"}, times(9, "n = n + 1")...)...), "value undefined|value 1|value 2|value 3|value 4|value 5|value 6|value 7|value 8|value 9|n=9")
	wantTold(t, strings.Repeat("---\n", 9), strings.Repeat("value undefined|", 9)+"value undefined")
	wantDesk(t, strings.Repeat("---\n", 10), impl.DeskOut{Code: impl.ErrForm})
	wantDesk(t, strings.Repeat("---\n", 1000), impl.DeskOut{Code: impl.ErrForm})
	// It is refused though the first ones would stop, or none would be read.
	wantDesk(t, session(times(11, "while (true) {}")...), impl.DeskOut{Code: impl.ErrForm})
	wantDesk(t, session(times(11, "#")...), impl.DeskOut{Code: impl.ErrForm})
}

func TestHowLongASessionThatRunsMayBe(t *testing.T) {
	tooLong := impl.DeskOut{Code: impl.ErrSize}
	blanks := strings.Repeat(" ", impl.MaxBytes-1)
	wantTold(t, blanks+"7", "value 7")
	wantDesk(t, blanks+"77", tooLong)
	wantTold(t, blanks[4:]+"1\n---", "value 1|value undefined")
	wantDesk(t, blanks[4:]+"1\n---\n", tooLong)
	// The length is looked at ahead of how many programs there are.
	many := strings.Repeat("---\n", 20)
	wantDesk(t, many+strings.Repeat(" ", impl.MaxBytes-len(many)), impl.DeskOut{Code: impl.ErrForm})
	wantDesk(t, many+strings.Repeat(" ", impl.MaxBytes-len(many)+1), tooLong)
	wantDesk(t, strings.Repeat("---\n", 1001), tooLong)
	wantDesk(t, strings.Repeat("(", impl.MaxBytes), impl.DeskOut{Text: "error 3\n"})
	wantDesk(t, strings.Repeat("(", impl.MaxBytes+1), tooLong)
	wantDesk(t, strings.Repeat("x\n", 1<<20), tooLong)
}

// stepsText is a program of that many steps, at least 8.
func stepsText(t *testing.T, steps int64) string {
	t.Helper()
	rounds := (steps - 8) / 9
	text := "var i = 0; while (i < " + num64(rounds) + ") i = i + 1;" + strings.Repeat(";", int(steps-7-9*rounds))
	if out := impl.Run(text, allSteps); out.Code != impl.OK || out.Steps != steps {
		t.Fatalf("%s takes %d steps, not %d", text, out.Steps, steps)
	}
	return text
}

func TestStepsOfASession(t *testing.T) {
	wantTold(t, stepsText(t, 2999), "value 332|i=332")
	wantTold(t, stepsText(t, 3000), "value 332|i=332")
	wantTold(t, stepsText(t, 3001), "error 6|i=332")
	wantTold(t, stepsText(t, 3002), "error 6|i=332")
	wantTold(t, "var i = 0; while (true) i = i + 1", "error 6|i=428")
	// Each has 3000 of its own.
	full, more := stepsText(t, 3000), stepsText(t, 3001)
	wantTold(t, session(times(10, full)...), strings.Repeat("value 332|", 10)+"i=332")
	wantTold(t, session(append(times(9, full), more)...), strings.Repeat("value 332|", 9)+"error 6|i=332")
	wantTold(t, session(full, more, "i = 0"), "value 332|error 6|i=332")
	wantTold(t, session("(", full, "throw 1", full), "error 3|value 332|threw 1|value 332|i=332")
}

func TestSessionsAreAsRunAllAndGlobalsTell(t *testing.T) {
	w := &runWriter{draws: draws{state: 88}}
	ran, threw, codes, globals := 0, 0, 0, 0
	for range 400 {
		programs := []string{w.program()}
		for range w.below(5) {
			switch w.below(6) {
			case 0:
				programs = append(programs, w.pick("( return # b=o+\"\\n\" throw(\"\\\\\\n\\\"\") print(\"\\n\"+a) a=\"\\n\" this[\"\\n\"]=1 while(true)a=1 while(a=1)({})"))
			default:
				programs = append(programs, w.further())
			}
		}
		text := session(programs...)
		if len(text) > impl.MaxBytes {
			continue
		}
		ran++
		want := sessionOf(programs)
		wantDesk(t, text, want)
		wantParts(t, text, programs...)
		threw += strings.Count(want.Text, "\nthrew ")
		codes += strings.Count(want.Text, "\nerror ")
		globals += strings.Count(want.Text, "=")
	}
	if ran < 100 || threw < 20 || codes < 10 || globals < 300 {
		t.Errorf("%d ran, %d threw, %d codes, %d globals", ran, threw, codes, globals)
	}
}

// Whatever bytes it is given, a session is answered.
func TestSessionsOfWhateverBytes(t *testing.T) {
	d := &draws{state: 808}
	for range 3000 {
		var text string
		switch d.below(4) {
		case 0:
			text = drawnSession(d, d.below(20), 3+d.below(6))
		case 1:
			bytes := make([]byte, d.below(60))
			for i := range bytes {
				bytes[i] = byte(d.below(256))
			}
			text = string(bytes)
		default:
			list := []string{d.soup(), d.pieces(), d.soup(), d.pieces()}
			text = session(list[:1+d.below(4)]...)
		}
		want := sessionOf(lineParts(text))
		if len(lineParts(text)) > 10 {
			want = impl.DeskOut{Code: impl.ErrForm}
		}
		wantDesk(t, text, want)
	}
}

func TestSessionsShareNothing(t *testing.T) {
	for _, text := range []string{"\"a text that is told\"", session("var s = \"a text that is told\"; print(s); s", "throw s", "#"), "", "print(\"a\\nb\")"} {
		bytes := append([]byte(text), 0)
		given := unsafe.String(&bytes[0], len(text))
		first, second := impl.SessionRun(given), impl.SessionRun(given)
		wantApart(t, "SessionRun", given, first.Text, second.Text)
		if string(bytes[:len(text)]) != text {
			t.Errorf("the text %q became %q", text, bytes)
		}
		kept := strings.Clone(first.Text)
		for i := range bytes {
			bytes[i] = '#'
		}
		if first.Text != kept || second.Text != kept {
			t.Errorf("what is told of %q became %q and %q", text, first.Text, second.Text)
		}
	}
}

func TestNothingIsKeptBetweenSessions(t *testing.T) {
	texts := []string{
		session("var a = 1; b = 2; print(3)", "function f() {}"), session("typeof a + typeof b + typeof f"), "delete print; delete eval", session("print(typeof eval)", "({})"), "while (true) ({})", "while (true) {}",
		"print.a = 1; eval.b = 2", "print(print.a); eval.b", session("throw 1", "#"), strings.Repeat("---\n", 12), strings.Repeat(" ", impl.MaxBytes+1),
	}
	first := map[string]impl.DeskOut{}
	parts := map[string][]string{}
	for round := range 4 {
		for i := range texts {
			text := texts[(i*7+round)%len(texts)]
			out, list := impl.SessionRun(text), impl.SessionParts(text)
			if round > 0 && (out != first[text] || !slices.Equal(list, parts[text])) {
				t.Errorf("%.60q: first %+v and %q, then %+v and %q", text, first[text], parts[text], out, list)
			}
			first[text], parts[text] = out, list
		}
	}
	wantTold(t, texts[1], "value \"undefinedundefinedundefined\"")
	wantTold(t, texts[7], "> undefined|value undefined")
}
