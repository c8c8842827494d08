package tests

import (
	"testing"

	"loop.example/g00317/impl"
)

// drawnNumbers are small and great ones, below 0 and above.
func drawnNumbers(state uint64, count int) []int64 {
	d := &draws{state: state}
	list := []int64{0, 1, -1, 2, -2, impl.MaxNumber, -impl.MaxNumber, impl.MaxNumber - 1, 1 - impl.MaxNumber}
	for range count {
		n := int64(d.below(1<<30))<<23 + int64(d.below(1<<23))
		n >>= d.below(53)
		if d.below(2) == 0 {
			n = -n
		}
		list = append(list, n)
	}
	return list
}

func TestSumsAndDifferencesGoTogether(t *testing.T) {
	sums := 0
	for _, x := range drawnNumbers(5, 300) {
		for _, y := range drawnNumbers(55, 300) {
			a, b := num(x), num(y)
			sum := impl.Compute("+", a, b)
			wantComputed(t, "+", b, a, sum)
			wantComputed(t, "-", a, num(-y), sum)
			if x+y > impl.MaxNumber || x+y < -impl.MaxNumber {
				wantComputed(t, "+", a, b, bad)
				continue
			}
			sums++
			wantComputed(t, "+", a, b, num(x+y))
			wantComputed(t, "-", sum, b, a)
			wantComputed(t, "-", sum, a, b)
			wantComputed(t, "-", impl.Compute("-", b, sum), num(0), num(-x))
		}
	}
	if sums < 1000 {
		t.Error("too few sums in range:", sums)
	}
}

func TestQuotientsAndRestsGoTogether(t *testing.T) {
	for _, x := range drawnNumbers(555, 300) {
		for _, y := range drawnNumbers(5555, 300) {
			a, b := num(x), num(y)
			quotient, rest := impl.Compute("/", a, b), impl.Compute("%", a, b)
			if y == 0 {
				if quotient != bad || rest != bad {
					t.Errorf("%d by 0: %+v, %+v", x, quotient, rest)
				}
				continue
			}
			wantComputed(t, "+", impl.Compute("*", quotient, b), rest, a)
			wantComputed(t, "+", impl.Compute("*", b, quotient), rest, a)
			wantRest(t, x, y, rest)
		}
	}
}

func wantRest(t *testing.T, x, y int64, rest impl.Value) {
	t.Helper()
	far := rest.Num >= max(y, -y) || -rest.Num >= max(y, -y)
	if rest.Kind != impl.VNumber || far || x > 0 && rest.Num < 0 || x < 0 && rest.Num > 0 {
		t.Errorf("%d %% %d: %+v", x, y, rest)
	}
}
