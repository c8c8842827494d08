package tests

import (
	"slices"
	"strings"
	"testing"

	"loop.example/g00317/impl"
)

// counters are programs that make count, a function that keeps a counter, from 0 on.
func counters() []string {
	const counting = "return function () { n = n + 1; return n }"
	return []string{
		"function counter() { var n = 0; " + counting + " } var count = counter()", "function counter(n) { " + counting + " } var count = counter(0)", "function counter() { \"use strict\"; var n = 0; " + counting + " } var count = counter()",
		"function counter() { eval(\"var n = 0\"); " + counting + " } var count = counter()", "function counter() { with ({n: 0}) { " + counting + " } } var count = counter()", "function counter() { try { throw 0 } catch (n) { " + counting + " } } var count = counter()",
		"function counter(n) { var all = arguments; return function () { all[0] = all[0] + 1; return n } } var count = counter(0)", "function counter(n) { var all = arguments; return function () { n = n + 1; return all[0] } } var count = counter(0)",
		"var count = (function () { var n = 0; " + counting + " })()", "function count() { count.n = count.n + 1; return count.n } count.n = 0", "function counter() { function up() { n = n + 1; return n } var n = 0; return up } var count = counter()",
	}
}

// makers are programs that make made, a function that makes an object of a name; its tick counts up, and
// finally tells the name.
func makers() []string {
	const tick = "function () { try { this.last = count(); return this.last } finally { done = done + 1; print(\"done \" + this.name) } }"
	return []string{
		"function Maker(name) { this.name = name; this.last = 0 } Maker.prototype.tick = " + tick + "; function made(name) { return new Maker(name) } var done = 0", "function Maker(name) { this.name = name; this.last = 0; this.tick = " + tick + " } function made(name) { return new Maker(name) } var done = 0",
		"function made(name) { return {name: name, last: 0, tick: " + tick + "} } var done = 0", "function Maker(name) { return {name: name, last: 0, tick: " + tick + "} } function made(name) { return new Maker(name) } var done = 0", "\"use strict\"; function made(name) { return {name: name, last: 0, tick: " + tick + "} } var done = 0",
		"function Maker(name) { with (this) { this.name = name; this.last = 0 } } Maker.prototype.tick = " + tick + "; function made(name) { return new Maker(name) } var done = 0",
	}
}

// wantBeginning holds the first lines of what is told, and that the others, those of Globals, have one line and not another.
func wantBeginning(t *testing.T, text string, first []string, has string, hasNot string) {
	t.Helper()
	out := impl.SessionRun(text)
	lines := strings.Split(strings.TrimSuffix(out.Text, "\n"), "\n")
	if out.Code != impl.OK || len(lines) < len(first) || !slices.Equal(lines[:len(first)], first) {
		t.Errorf("%s\ngot  %.600q, %d\nwant %.600q", text, lines, out.Code, first)
		return
	}
	rest := lines[len(first):]
	if !slices.Contains(rest, has) || slices.ContainsFunc(rest, func(line string) bool { return strings.HasPrefix(line, hasNot) }) {
		t.Errorf("%s\ngot the Globals %q", text, rest)
	}
}

func TestCounterIsCountedUpByObjects(t *testing.T) {
	d := &draws{state: 14}
	for _, counter := range counters() {
		for _, maker := range makers() {
			names := []string{"a", "b", "c"}
			programs := []string{counter + "\n7", maker + "\n8", "var a = made(\"a\"), b = made(\"b\"), c = made(\"c\"); 9"}
			told := []string{"value 7", "value 8", "value 9"}
			last := map[string]int{"a": 0, "b": 0, "c": 0}
			count := 0
			for range 5 {
				var calls string
				for range 1 + d.below(4) {
					name := names[d.below(3)]
					count++
					last[name] = count
					calls += name + ".tick();"
					told = append(told, "> done "+name)
				}
				programs = append(programs, calls)
				told = append(told, "value "+decimal(count))
			}
			programs = append(programs, "print(a.last); print(b.last); print(c.last); done")
			for _, name := range names {
				told = append(told, "> "+decimal(last[name]))
			}
			told = append(told, "value "+decimal(count))
			wantBeginning(t, session(programs...), told, "done="+decimal(count), "n=")
		}
	}
}

// Two counters are counted apart, and by the objects that were made with them.
func TestTwoCountersAreApart(t *testing.T) {
	wantTold(t, session(
		"function counter(n) { return function () { n = n + 1; return n } }",
		"function Maker(count) { this.tick = function () { try { return count() } finally { print(\"done\") } } }",
		"var one = counter(0), two = counter(10), a = new Maker(one), b = new Maker(two), c = new Maker(one)",
		"a.tick() + \" \" + b.tick() + \" \" + c.tick()", "b.tick(); b.tick()", "a.tick()", "one() + two()",
	), "value undefined|value undefined|value undefined|> done|> done|> done|value \"1 11 2\"|> done|> done|value 13|> done|value 3|value 18|counter=[object]|Maker=[object]|one=[object]|two=[object]|a=[object]|b=[object]|c=[object]")
}

// What finally does is done each time, however what is ahead of it ends.
func TestFinallyIsDoneEachTime(t *testing.T) {
	const head = "function counter() { var n = 0; return function () { n = n + 1; return n } } var count = counter(), all = 0"
	for _, c := range []struct {
		body string
		ends string // how a call of it is told
	}{
		{"try { @ } finally { $ }", "undefined"}, {"try { @; return 5 } finally { $ }", "5"}, {"try { @; return } finally { $ }", "undefined"}, {"try { @; throw 6 } finally { $ }", "! 6"}, {"try { @; none } finally { $ }", "! \"ReferenceError\""}, {"try { @; throw 6 } catch (e) { return e } finally { $ }", "6"},
		{"try { throw 6 } catch (e) { @; throw 7 } finally { $ }", "! 7"}, {"while (true) { try { @; break } finally { $ } } return 8", "8"}, {"var i = 0; while (i < 1) { i = i + 1; try { @; continue } finally { $ } } return 9", "9"}, {"for (var k in {p: 1}) { try { @; return k } finally { $ } }", "\"p\""},
		// What ends finally counts.
		{"try { @; return 1 } finally { $; return 2 }", "2"}, {"try { @; throw 1 } finally { $; return 2 }", "2"}, {"try { @; return 1 } finally { $; throw 2 }", "! 2"}, {"while (true) { try { @; return 1 } finally { $; break } } return 3", "3"}, {"try { try { @; throw 1 } finally { $ } } catch (e) { return e + 1 }", "2"},
		{"with (this) { try { @; return 4 } finally { $ } }", "4"}, {"try { return (function () { @; throw 3 })() } finally { $ }", "! 3"},
		{"return eval(\"try { @; 5 } finally { $; 6 }\")", "6"}, {"eval(\"try { @; throw 5 } finally { $ }\")", "! 5"},
	} {
		body := strings.NewReplacer("@", "count()", "$", "all = all + 1; print(all)").Replace(c.body)
		for rounds := 1; rounds <= 7; rounds++ {
			programs := []string{head, "function Maker() { this.tick = function () {" + body + "} } var o = new Maker()"}
			told := []string{"value undefined", "value undefined"}
			for round := range rounds {
				programs = append(programs, "o.tick()")
				told = append(told, "> "+decimal(round+1), strings.Replace("value "+c.ends, "value !", "threw", 1))
			}
			programs = append(programs, "count()")
			told = append(told, "value "+decimal(rounds+1))
			wantBeginning(t, session(programs...), told, "all="+decimal(rounds), "n=")
		}
	}
}

// Keys stand as they were made: one that is written again stays, one that is made again comes last.
func TestKeysStandAsTheyWereMade(t *testing.T) {
	const maker = "function Maker(x, y) { this.z = 0; this.y = y; this.x = x } Maker.prototype.w = 1; 5"
	for _, c := range [][2]string{
		{"{b: 1, a: 2, \"10\": 3, \"9\": 4}", "> b|> a|> 10|> 9|"}, {"{}", ""}, {"{a: 1, b: 2, a: 3}", "> a|> b|"}, {"{\"\": 1, \" \": 2, \"\\n\": 3}", "> |>  |> \\n|"}, {"new Maker(1, 2)", "> z|> y|> x|"}, {"function () {}", ""}, {"Maker.prototype", "> w|"},
		{"(function () { return arguments })(7, 8)", "> 0|> 1|"},
	} {
		wantTold(t, session(maker, "var o = "+c[0]+"; 6", "for (var k in o) print(k); k = 7"), "value 5|value 6|"+c[1]+"value 7|Maker=[object]|o=[object]|k=7")
	}
}

func TestKeysStandAsDrawn(t *testing.T) {
	d := &draws{state: 1414}
	for range 300 {
		programs, told := []string{"var o = {}, g = this; 1"}, []string{"value 1"}
		var keys []string
		for range 2 + d.below(6) {
			var text string
			for range 1 + d.below(5) {
				key := []string{"a", "b", "10", "9", "length", "x y", "B"}[d.below(7)]
				if d.below(3) == 0 {
					text += "delete o[" + quote(key) + "]; "
					keys = slices.DeleteFunc(keys, func(k string) bool { return k == key })
					continue
				}
				text += "o[" + quote(key) + "] = 1; "
				if !slices.Contains(keys, key) {
					keys = append(keys, key)
				}
			}
			programs = append(programs, text+"for (var k in o) print(k); 2")
			for _, key := range keys {
				told = append(told, "> "+key)
			}
			told = append(told, "value 2")
		}
		wantBeginning(t, session(programs...), told, "o=[object]", "> ")
	}
}

// The Globals are keys, too: they are told as they were made, whatever is written later on.
func TestGlobalsStandAsTheyWereMade(t *testing.T) {
	d := &draws{state: 141414}
	for range 200 {
		var programs, keys, told []string
		for range 1 + d.below(8) {
			name := []string{"a", "b", "c", "d", "e"}[d.below(5)]
			switch d.below(3) {
			case 0:
				programs = append(programs, "delete "+name+"; 0")
				keys = slices.DeleteFunc(keys, func(k string) bool { return k == name })
			default:
				programs = append(programs, "this."+name+" = 0")
				if !slices.Contains(keys, name) {
					keys = append(keys, name)
				}
			}
			told = append(told, "value 0")
		}
		for _, name := range keys {
			told = append(told, name+"=0")
		}
		wantTold(t, session(programs...), strings.Join(told, "|"))
	}
}
