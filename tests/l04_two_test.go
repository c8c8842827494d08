package tests

import (
	"math/big"
	"slices"
	"strings"
	"testing"
	"unsafe"

	"loop.example/g00317/impl"
)

func wantEqual(t *testing.T, a, b impl.Value, want bool) {
	t.Helper()
	if impl.Equal(a, b) != want || impl.Equal(b, a) != want {
		t.Errorf("%+v == %+v: %v and %v, want %v", short(a), short(b), impl.Equal(a, b), impl.Equal(b, a), want)
	}
}

func wantLess(t *testing.T, a, b, want impl.Value) {
	t.Helper()
	if got := impl.Less(a, b); got != want {
		t.Errorf("%+v < %+v: %+v, want %+v", short(a), short(b), got, want)
	}
}

func wantComputed(t *testing.T, op string, a, b, want impl.Value) {
	t.Helper()
	if got := impl.Compute(op, a, b); got != want {
		t.Errorf("%+v %s %+v: %+v, want %+v", short(a), op, short(b), short(got), short(want))
	}
}

func TestAlike(t *testing.T) {
	list := rightValues()
	for i, a := range list {
		for k, b := range list {
			want := i == k && a.Kind != impl.VBad
			if got := impl.Alike(a, b); got != want {
				t.Errorf("%+v === %+v: %v", short(a), short(b), got)
			}
		}
	}
}

func TestEqualOfTheSameKind(t *testing.T) {
	list := rightValues()
	for _, a := range list {
		for _, b := range list {
			if a.Kind == b.Kind {
				wantEqual(t, a, b, impl.Alike(a, b))
			}
		}
	}
	wantEqual(t, written("1"), written("01"), false)
	wantEqual(t, written("a"), written("a"), true)
	wantEqual(t, ref(1), ref(2), false)
	wantEqual(t, ref(2), ref(2), true)
	wantEqual(t, bad, bad, false)
}

func TestEqualOfUndefinedAndNull(t *testing.T) {
	for _, v := range rightValues() {
		so := v.Kind == impl.VUndefined || v.Kind == impl.VNull
		wantEqual(t, missing, v, so)
		wantEqual(t, null, v, so)
	}
	wantEqual(t, null, num(0), false)
	wantEqual(t, missing, written("undefined"), false)
	wantEqual(t, null, written(""), false)
}

func TestEqualOfObjects(t *testing.T) {
	for _, v := range rightValues() {
		if v.Kind != impl.VRef {
			wantEqual(t, ref(0), v, v == written("[object]"))
			wantEqual(t, ref(1), v, v == written("[object]"))
		}
	}
}

func TestEqualAsNumbers(t *testing.T) {
	for _, c := range []struct {
		a, b impl.Value
		want bool
	}{
		{num(1), written("1"), true}, {num(1), written(" 01 "), true}, {num(0), written(""), true}, {num(0), written("  "), true},
		{num(-12), written("-12"), true}, {num(12), written("-12"), false}, {num(1), written("1x"), false}, {num(1), written("2"), false},
		{num(1), yes, true}, {num(0), no, true}, {num(0), yes, false}, {num(2), yes, false}, {num(-1), yes, false},
		{yes, written("1"), true}, {no, written(""), true}, {no, written("0"), true}, {yes, written("true"), false}, {no, written("false"), false},
		{bad, written("NaN"), false}, {bad, written("x"), false}, {bad, num(0), false}, {bad, no, false}, {bad, yes, false},
		{num(impl.MaxNumber), written("9007199254740992"), false}, {num(999999999999999), written("999999999999999"), true},
	} {
		wantEqual(t, c.a, c.b, c.want)
	}
}

func TestLessOfTexts(t *testing.T) {
	texts := []string{"", "\x00", "\n", " ", " 9", "10", "9", "A", "Z", "[", "[objec", "[object]", "[object]]", "a", "a\x00", "aa", "ab", "b", "\x7f", "\x80", "\xc3\xa9", "\xff"}
	if !slices.IsSorted(texts) {
		t.Fatal("the texts stand in another order")
	}
	for i, a := range texts {
		for k, b := range texts {
			wantLess(t, written(a), written(b), truth(i < k))
		}
	}
	long := strings.Repeat("a", 999)
	wantLess(t, written(long), written(long+"a"), yes)
	wantLess(t, written(long+"b"), written(long+"a"), no)
}

func TestLessOfObjects(t *testing.T) {
	wantLess(t, ref(0), ref(1), no)
	wantLess(t, ref(1), ref(0), no)
	for _, c := range []struct {
		text         string
		below, above bool
	}{
		{"", true, false}, {"[", true, false}, {"[object", true, false}, {"[object]", false, false}, {"[object]a", false, true}, {"a", false, true}, {"1", true, false}, {"Z", true, false},
	} {
		wantLess(t, written(c.text), ref(5), truth(c.below))
		wantLess(t, ref(5), written(c.text), truth(c.above))
	}
	for _, v := range []impl.Value{missing, null, no, yes, num(0), num(-5), bad} {
		wantLess(t, ref(0), v, missing)
		wantLess(t, v, ref(0), missing)
	}
}

func TestLessAsNumbers(t *testing.T) {
	numbers := []impl.Value{num(-impl.MaxNumber), written(" -13"), num(-12), num(-1), null, num(1), num(2), num(9), written("0010"), num(impl.MaxNumber)}
	for i, a := range numbers {
		for k, b := range numbers {
			if a.Kind != impl.VText || b.Kind != impl.VText {
				wantLess(t, a, b, truth(i < k))
			}
		}
	}
	for _, v := range []impl.Value{num(0), no, null} {
		wantLess(t, v, yes, yes)
		wantLess(t, yes, v, no)
		wantLess(t, v, written(""), no)
		wantLess(t, written(""), v, no)
	}
	wantLess(t, written("10"), num(9), no)
	wantLess(t, num(9), written("10"), yes)
	wantLess(t, yes, written("2"), yes)
	wantLess(t, null, null, no)
}

func TestLessOfNoNumber(t *testing.T) {
	for _, v := range rightValues() {
		wantLess(t, bad, v, missing)
		wantLess(t, v, bad, missing)
		wantLess(t, missing, v, missing)
		wantLess(t, v, missing, missing)
		if v.Kind == impl.VNumber {
			wantLess(t, written("1x"), v, missing)
			wantLess(t, v, written("1x"), missing)
		}
	}
}

func TestComputeOfOtherOps(t *testing.T) {
	long := strings.Repeat("+", 4001)
	for _, op := range []string{"", " ", "++", "+ ", " +", "+-", "-*", "+-*/%", "=", "==", "===", "<", "in", "!", "&&", "||", "plus", "\x00", "\xff", strings.Repeat("+", 4000), long} {
		for _, v := range rightValues() {
			wantComputed(t, op, v, num(1), missing)
			wantComputed(t, op, num(1), v, missing)
		}
	}
	for b := range 256 {
		op := string([]byte{byte(b)})
		if !strings.Contains("+-*/%", op) {
			wantComputed(t, op, num(6), num(3), missing)
		}
	}
}

func TestSumOfTexts(t *testing.T) {
	for _, v := range rightValues() {
		for _, text := range []string{"", "a", " 1", "\xff\n"} {
			if len(v.Text)+len(text) <= 1000 {
				wantComputed(t, "+", written(text), v, written(text+impl.ToText(v)))
				wantComputed(t, "+", v, written(text), written(impl.ToText(v)+text))
			}
		}
		if len(v.Text) < 900 {
			wantComputed(t, "+", ref(3), v, written("[object]"+impl.ToText(v)))
			wantComputed(t, "+", v, ref(3), written(impl.ToText(v)+"[object]"))
		}
	}
	wantComputed(t, "+", written("a"), num(-1), written("a-1"))
	wantComputed(t, "+", missing, written("1"), written("undefined1"))
	wantComputed(t, "+", bad, written(""), written("NaN"))
	wantComputed(t, "+", ref(0), ref(1), written("[object][object]"))
	wantComputed(t, "+", written("1"), written("2"), written("12"))
}

func TestSumOfLongTexts(t *testing.T) {
	long := strings.Repeat("a", 1001)
	for _, n := range []int{0, 1, 500, 999, 1000} {
		wantComputed(t, "+", written(long[:n]), written(long[n:1000]), written(long[:1000]))
		if n > 0 {
			wantComputed(t, "+", written(long[:n]), written(long[n:]), bad)
		}
	}
	wantComputed(t, "+", written(long[:992]), ref(0), written(long[:992]+"[object]"))
	wantComputed(t, "+", written(long[:993]), ref(0), bad)
	wantComputed(t, "+", num(-10), written(long[:997]), written("-10"+long[:997]))
	wantComputed(t, "+", num(-10), written(long[:998]), bad)
	wantComputed(t, "+", written(long[:1000]), written(long[:1000]), bad)
}

func TestComputeAsNumbers(t *testing.T) {
	numbers := map[impl.Value]int64{null: 0, no: 0, yes: 1, written(""): 0, written(" 7 "): 7, written("-3"): -3, num(5): 5, num(-2): -2}
	for a, x := range numbers {
		for b, y := range numbers {
			if a.Kind != impl.VText && b.Kind != impl.VText {
				wantComputed(t, "+", a, b, num(x+y))
			}
			wantComputed(t, "-", a, b, num(x-y))
			wantComputed(t, "*", a, b, num(x*y))
			if y == 0 {
				wantComputed(t, "/", a, b, bad)
				wantComputed(t, "%", a, b, bad)
			} else {
				wantComputed(t, "/", a, b, num(x/y))
				wantComputed(t, "%", a, b, num(x%y))
			}
		}
	}
}

func TestComputeOfNoNumber(t *testing.T) {
	for _, none := range []impl.Value{missing, bad, ref(0), ref(399), written("x"), written("-")} {
		for _, v := range rightValues() {
			for _, op := range []string{"+", "-", "*", "/", "%"} {
				text := none.Kind == impl.VText || none.Kind == impl.VRef || v.Kind == impl.VText || v.Kind == impl.VRef
				if op != "+" || !text {
					wantComputed(t, op, none, v, bad)
					wantComputed(t, op, v, none, bad)
				}
			}
		}
	}
}

func TestComputeRoundsTowardsNought(t *testing.T) {
	for _, c := range []struct{ a, b, quotient, rest int64 }{
		{7, 2, 3, 1}, {-7, 2, -3, -1}, {7, -2, -3, 1}, {-7, -2, 3, -1}, {1, 2, 0, 1}, {-1, 2, 0, -1}, {6, 3, 2, 0}, {-6, 3, -2, 0},
		{0, 5, 0, 0}, {0, -5, 0, 0}, {impl.MaxNumber, 1, impl.MaxNumber, 0}, {impl.MaxNumber, -1, -impl.MaxNumber, 0},
		{-impl.MaxNumber, -1, impl.MaxNumber, 0}, {impl.MaxNumber, impl.MaxNumber, 1, 0}, {1, impl.MaxNumber, 0, 1}, {-1, -impl.MaxNumber, 0, -1},
		{impl.MaxNumber, 3, 3002399751580330, 2}, {-impl.MaxNumber, 3, -3002399751580330, -2},
	} {
		wantComputed(t, "/", num(c.a), num(c.b), num(c.quotient))
		wantComputed(t, "%", num(c.a), num(c.b), num(c.rest))
	}
}

// TestComputeByGreatNumbers holds each result, in range or not, against numbers without end.
func TestComputeByGreatNumbers(t *testing.T) {
	numbers := []int64{0, 1, 2, 3, 5, 94906265, 94906266, 94906267, 1 << 26, 1 << 27, 1<<27 + 1, 1 << 32, 1 << 40, 1 << 52, 1<<52 + 1,
		impl.MaxNumber / 3, impl.MaxNumber/3 + 1, impl.MaxNumber - 1, impl.MaxNumber}
	for _, n := range slices.Clone(numbers) {
		numbers = append(numbers, -n)
	}
	for _, x := range numbers {
		for _, y := range numbers {
			a, b := big.NewInt(x), big.NewInt(y)
			wantComputed(t, "+", num(x), num(y), bounded(new(big.Int).Add(a, b)))
			wantComputed(t, "-", num(x), num(y), bounded(new(big.Int).Sub(a, b)))
			wantComputed(t, "*", num(x), num(y), bounded(new(big.Int).Mul(a, b)))
			if y != 0 {
				wantComputed(t, "/", num(x), num(y), bounded(new(big.Int).Quo(a, b)))
				wantComputed(t, "%", num(x), num(y), bounded(new(big.Int).Rem(a, b)))
			}
		}
	}
}

func bounded(n *big.Int) impl.Value {
	if n.CmpAbs(big.NewInt(impl.MaxNumber)) > 0 {
		return bad
	}
	return num(n.Int64())
}

func TestComputeAtTheEdges(t *testing.T) {
	most, least := num(impl.MaxNumber), num(-impl.MaxNumber)
	wantComputed(t, "+", num(impl.MaxNumber-1), num(1), most)
	wantComputed(t, "+", most, num(1), bad)
	wantComputed(t, "+", least, num(-1), bad)
	wantComputed(t, "-", num(1-impl.MaxNumber), num(1), least)
	wantComputed(t, "-", least, num(1), bad)
	wantComputed(t, "-", num(0), least, most)
	wantComputed(t, "*", num(1<<26), num(1<<27), most)
	wantComputed(t, "*", num(-1<<26), num(1<<27), least)
	wantComputed(t, "*", num(1<<27), num(1<<27), bad)
	wantComputed(t, "*", num(1<<32), num(1<<32), bad)
	wantComputed(t, "*", num(-1<<32), num(1<<31), bad)
	wantComputed(t, "*", most, most, bad)
	wantComputed(t, "*", most, num(0), num(0))
	wantComputed(t, "*", num(0), least, num(0))
	wantComputed(t, "*", num(-1), num(0), num(0))
	for _, v := range []impl.Value{num(0), null, no} {
		wantComputed(t, "/", most, v, bad)
		wantComputed(t, "%", v, v, bad)
	}
}

// TestTextsOfValuesAreNewMemory: an answer shares no bytes with an argument.
func TestTextsOfValuesAreNewMemory(t *testing.T) {
	text := strings.Repeat("ab", 20)
	for _, got := range []string{
		impl.ToText(written(text)),
		impl.Compute("+", written(text), written("")).Text,
		impl.Compute("+", written(""), written(text)).Text,
	} {
		if got != text || unsafe.StringData(got) == unsafe.StringData(text) {
			t.Errorf("%q is shared, or another text", got)
		}
	}
}
