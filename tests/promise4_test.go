package tests

import (
	"strconv"
	"strings"
	"testing"

	"loop.example/g00317/impl"
)

// drawnValue is one of every Kind; small numbers and texts, so that many are equal.
func (d *draws) drawnValue() impl.Value {
	switch d.below(7) {
	case 0:
		return missing
	case 1:
		return null
	case 2:
		return truth(d.below(2) == 0)
	case 3:
		return num(int64(d.below(7) - 3))
	case 4:
		return bad
	case 5:
		return ref(int64(d.below(3)))
	}
	texts := []string{"", " ", "[object]", "NaN", "true", "null", "x", strings.Repeat(" ", d.below(3)) + strconv.Itoa(d.below(7)-3)}
	return written(texts[d.below(len(texts))])
}

func TestValuesAreAlikeAndEqualEitherWayRound(t *testing.T) {
	d := &draws{state: 4}
	list := rightValues()
	for range 400 {
		list = append(list, d.drawnValue())
	}
	for _, a := range list {
		for _, b := range list {
			wantEitherWayRound(t, a, b)
		}
		if impl.Alike(bad, a) || impl.Equal(bad, a) {
			t.Errorf("%+v is alike or equal to VBad", short(a))
		}
		if a != bad && (!impl.Alike(a, a) || !impl.Equal(a, a)) {
			t.Errorf("%+v is not alike or equal to itself", short(a))
		}
	}
}

func wantEitherWayRound(t *testing.T, a, b impl.Value) {
	t.Helper()
	if impl.Alike(a, b) != impl.Alike(b, a) || impl.Equal(a, b) != impl.Equal(b, a) {
		t.Errorf("%+v and %+v are another thing the other way round", short(a), short(b))
	}
	if impl.Alike(a, b) && !impl.Equal(a, b) {
		t.Errorf("%+v and %+v are alike and not equal", short(a), short(b))
	}
	if impl.Alike(a, b) != (a == b && a != bad) {
		t.Errorf("%+v === %+v: %v", short(a), short(b), impl.Alike(a, b))
	}
}

func TestNumbersAreReadBackFromTheirTexts(t *testing.T) {
	numbers := []int64{0}
	for power := int64(1); power <= 100000000000000; power *= 10 {
		for digit := int64(1); digit <= 9; digit++ {
			numbers = append(numbers, power*digit, power*digit+1, power*digit-1, power*10-digit)
		}
	}
	d := &draws{state: 44}
	for range 3000 {
		n := int64(1 + d.below(9))
		for range d.below(15) {
			n = n*10 + int64(d.below(10))
		}
		numbers = append(numbers, n)
	}
	for _, n := range numbers {
		for _, v := range []impl.Value{num(n), num(-n)} {
			text := impl.ToText(v)
			if got := impl.ToNumber(written(text)); got != v {
				t.Errorf("%+v is read back from %q as %+v", v, text, got)
			}
			if text != strconv.FormatInt(v.Num, 10) || !impl.Equal(v, written(text)) || impl.Alike(v, written(text)) {
				t.Errorf("%+v has the text %q", v, text)
			}
		}
	}
}
