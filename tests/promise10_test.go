package tests

import (
	"reflect"
	"slices"
	"testing"

	"loop.example/g00317/impl"
)

// wantBegun holds programs to promise 10: the first ones end as they do alone.
func wantBegun(t *testing.T, texts []string, steps int64) []impl.RunOut {
	t.Helper()
	all := impl.RunAll(texts, steps)
	for k := 1; k <= len(texts); k++ {
		first := impl.RunAll(texts[:k], steps)
		if want := all[:min(k, len(all))]; !reflect.DeepEqual(first, want) {
			t.Errorf("%q with %d steps: the first %d\ngot  %+v\nwant %+v", texts, steps, k, first, want)
		}
	}
	if alone := impl.Run(texts[0], steps); !reflect.DeepEqual(alone, all[0]) {
		t.Errorf("%q with %d steps: alone %+v, as the first %+v", texts[0], steps, alone, all[0])
	}
	return all
}

// wantGlobalsBegun holds Globals to it: behind the first ones they are what a further one finds.
func wantGlobalsBegun(t *testing.T, texts []string, steps int64, all []impl.RunOut) {
	t.Helper()
	for k := 1; k <= len(all); k++ {
		found := impl.Globals(texts[:k], steps)
		for _, further := range []string{"", ";", "(", "throw 1", "return"} {
			if k == len(texts) || k < len(all) {
				more := append(slices.Clone(texts[:k]), further)
				if got := impl.Globals(more, steps); !slices.Equal(got, found) {
					t.Errorf("%q with %d steps and %q: got %q, want %q", texts[:k], steps, further, got, found)
				}
			}
		}
	}
	if got, want := impl.Globals(texts, steps), impl.Globals(texts[:len(all)], steps); !slices.Equal(got, want) {
		t.Errorf("%q with %d steps: got %q, want %q", texts, steps, got, want)
	}
}

func TestProgramsBeginAsTheFirstOnesAlone(t *testing.T) {
	w := &runWriter{draws: draws{state: 10}}
	ran, stopped, globals := 0, 0, 0
	for range 70 {
		texts := []string{w.program()}
		for range w.below(6) {
			switch w.below(7) {
			case 0:
				texts = append(texts, w.pick("( return ; # throw"))
			case 1:
				texts = append(texts, w.pick("a=a+1 delete(o) b=o x={} this.y=1 while(true)a=1"))
			default:
				texts = append(texts, w.further())
			}
		}
		for _, steps := range []int64{50, 3000} {
			all := wantBegun(t, texts, steps)
			wantGlobalsBegun(t, texts, steps, all)
			ran += len(all)
			globals += len(impl.Globals(texts, steps))
			if len(all) < len(texts) {
				stopped++
			}
		}
		if t.Failed() {
			return
		}
	}
	if ran < 150 || stopped < 20 || globals < 300 {
		t.Errorf("%d ran, %d lists were stopped, %d globals", ran, stopped, globals)
	}
}

// What a further program finds is what the ones ahead have left.
func TestFurtherProgramsFindWhatIsLeft(t *testing.T) {
	w := &runWriter{draws: draws{state: 1010}}
	const show = "var k0; for (k0 in this) { if (k0 !== \"k0\") print(k0 + \"=\" + this[k0]) }"
	asked := 0
	for range 150 {
		texts := []string{w.program(), w.further()}
		list := impl.RunAll(append(texts, show), 3000)
		if len(list) < 3 || list[2].Threw {
			continue // it was stopped, or a script has taken print away
		}
		asked++
		if want := impl.Globals(texts, 3000); !slices.Equal(list[2].Log, want) {
			t.Errorf("%q: got %q, want %q", texts, list[2].Log, want)
		}
	}
	if asked < 60 {
		t.Errorf("only %d were asked", asked)
	}
}
