package tests

import (
	"reflect"
	"slices"
	"testing"

	"loop.example/g00317/impl"
)

// wantStepsKept holds a script that came to its end to promise 9: it does so alike with more steps and
// with as many as it took; with fewer it ends with as many as there were, and begins as it did.
func wantStepsKept(t *testing.T, text string, out impl.RunOut) {
	t.Helper()
	if out.Code != impl.OK {
		return
	}
	for _, steps := range []int64{out.Steps, out.Steps + 1, out.Steps + 7, 2 * out.Steps, allSteps} {
		if got := impl.Run(text, min(steps, allSteps)); !reflect.DeepEqual(got, out) {
			t.Errorf("%s\nwith %d steps: got %+v, want %+v", text, steps, got, out)
		}
	}
	fewer := []int64{0, 1, out.Steps / 3, out.Steps / 2, out.Steps - 2, out.Steps - 1}
	for _, steps := range fewer {
		if steps < 0 || steps >= out.Steps {
			continue
		}
		got := impl.Run(text, steps)
		begun := len(got.Log) <= len(out.Log) && slices.Equal(got.Log, out.Log[:min(len(got.Log), len(out.Log))])
		if got.Code != impl.ErrSteps || got.Steps != steps || got.Threw || got.Value != missing || !begun {
			t.Errorf("%s\nwith %d steps of %d: got %+v, want a beginning of %+v", text, steps, out.Steps, got, out)
		}
	}
}

func TestDrawnProgramsKeepTheirSteps(t *testing.T) {
	w := &runWriter{draws: draws{state: 9}}
	ended, threw, printed, stopped := 0, 0, 0, 0
	for range 800 {
		text := w.program()
		out := impl.Run(text, 5000)
		switch {
		case out.Code == impl.ErrSteps || out.Code == impl.ErrFull:
			stopped++
			continue
		case out.Code != impl.OK:
			t.Fatalf("%s\nis not read: %d", text, out.Code)
		case out.Threw:
			threw++
		default:
			ended++
		}
		printed += len(out.Log)
		wantStepsKept(t, text, out)
		if t.Failed() {
			return
		}
	}
	if ended < 300 || threw < 100 || printed < 1200 || stopped > 300 {
		t.Errorf("%d ended, %d threw, %d lines were printed, %d were stopped", ended, threw, printed, stopped)
	}
}

// With each number of steps that is fewer a script ends with just as many.
func TestEachNumberOfStepsThatIsFewer(t *testing.T) {
	const text = "var o = {a: 1}, s = 0; function f(n) { try { if (n < 1) throw \"x\"; return f(n - 1) } finally { print(n) } } " +
		"try { f(3) } catch (e) { with (o) { eval(\"s = a + 1; var t = 5\") } } for (var k in o) { print(k) } new f(0)"
	out := impl.Run(text, allSteps)
	if endOf(out) != "0 1 2 3 a 0 ! 'x'" {
		t.Fatalf("got %s", endOf(out))
	}
	lines := 0
	for steps := range out.Steps {
		got := impl.Run(text, steps)
		if got.Code != impl.ErrSteps || got.Steps != steps || len(got.Log) < lines || !slices.Equal(got.Log, out.Log[:len(got.Log)]) {
			t.Errorf("with %d steps: got %+v", steps, got)
		}
		lines = len(got.Log)
	}
	wantStepsKept(t, text, out)
}

// Any program that is read runs, whatever it is, and ends with as many steps as there are.
func TestAnyProgramRuns(t *testing.T) {
	w := &writer{draws: draws{state: 99}}
	texts := readable()
	for range 1500 {
		if s := w.program(); !tooLarge(s) && impl.ScriptRead(s.text).Code == impl.OK {
			texts = append(texts, s.text)
		}
	}
	threw := 0
	for _, text := range texts {
		out := impl.Run(text, 400)
		switch out.Code {
		case impl.OK:
			wantStepsKept(t, text, out)
		case impl.ErrSteps:
			if out.Steps != 400 {
				t.Errorf("%s: got %+v", text, out)
			}
		case impl.ErrFull:
		default:
			t.Errorf("%s: got %+v", text, out)
		}
		if out.Threw {
			threw++
		}
	}
	if threw < 300 || len(texts)-threw < 300 {
		t.Errorf("%d of %d threw", threw, len(texts))
	}
}
