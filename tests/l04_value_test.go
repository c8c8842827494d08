package tests

import (
	"math"
	"strconv"
	"strings"
	"testing"

	"loop.example/g00317/impl"
)

var (
	missing = impl.Value{}
	null    = impl.Value{Kind: impl.VNull}
	no      = impl.Value{Kind: impl.VBool}
	yes     = impl.Value{Kind: impl.VBool, Num: 1}
	bad     = impl.Value{Kind: impl.VBad}
)

func num(n int64) impl.Value {
	return impl.Value{Kind: impl.VNumber, Num: n}
}

func written(text string) impl.Value {
	return impl.Value{Kind: impl.VText, Text: text}
}

func ref(n int64) impl.Value {
	return impl.Value{Kind: impl.VRef, Num: n}
}

func truth(so bool) impl.Value {
	if so {
		return yes
	}
	return no
}

// spoiltValues are right but for one thing each.
func spoiltValues() []impl.Value {
	list := []impl.Value{
		{Kind: -1}, {Kind: 7}, {Kind: 9}, {Kind: math.MinInt64}, {Kind: math.MaxInt64}, {Kind: 1 << 32},
		{Kind: impl.VBool, Num: -1}, {Kind: impl.VBool, Num: 2}, {Kind: impl.VBool, Num: math.MaxInt64},
		num(impl.MaxNumber + 1), num(-impl.MaxNumber - 1), num(math.MaxInt64), num(math.MinInt64),
		ref(-1), ref(400), ref(math.MaxInt64), ref(math.MinInt64),
		written(strings.Repeat("a", 1001)), written(strings.Repeat("1", 5000)), written(strings.Repeat(" ", 1001)),
		{Kind: impl.VText, Num: 1}, {Kind: impl.VText, Num: -1, Text: "1"},
	}
	for _, kind := range []int64{impl.VUndefined, impl.VNull, impl.VBad} {
		list = append(list, impl.Value{Kind: kind, Num: 1}, impl.Value{Kind: kind, Num: -1})
	}
	for _, v := range []impl.Value{missing, null, no, yes, num(0), num(1), bad, ref(0), ref(1)} {
		v.Text = "1"
		list = append(list, v)
	}
	return list
}

// rightValues are some of every Kind, the edges of each among them.
func rightValues() []impl.Value {
	list := []impl.Value{missing, null, no, yes, bad, ref(0), ref(1), ref(399)}
	for _, n := range []int64{0, 1, -1, 2, 7, -12, 399, 999999999999999, -999999999999999, impl.MaxNumber, -impl.MaxNumber} {
		list = append(list, num(n))
	}
	for _, text := range []string{
		"", " ", "0", "1", "-1", " 1", "01", "2", "-12", "a", "ab", "B", "-", "- 1", "1 1", "true", "false", "null", "undefined",
		"NaN", "[object]", "[object", "[object]]", "\xff", "\x00", "\n", "1\t", "9007199254740992",
		"999999999999999", strings.Repeat("a", 1000), strings.Repeat(" ", 1000),
	} {
		list = append(list, written(text))
	}
	return list
}

// short keeps a long text, and bytes that are no letters, out of what a test tells.
func short(v impl.Value) impl.Value {
	if len(v.Text) > 40 {
		v.Text = v.Text[:40] + ".."
	}
	v.Text = strconv.QuoteToASCII(v.Text)
	return v
}

func TestValueConstants(t *testing.T) {
	got := []int64{impl.VUndefined, impl.VNull, impl.VBool, impl.VNumber, impl.VBad, impl.VText, impl.VRef}
	for i, kind := range got {
		if kind != int64(i) {
			t.Errorf("Kind %d stands at %d", kind, i)
		}
	}
	if impl.MaxNumber != 1<<53 {
		t.Error("MaxNumber", impl.MaxNumber)
	}
}

func TestValuesThatAreRight(t *testing.T) {
	for _, v := range rightValues() {
		if !impl.ValueRight(v) {
			t.Errorf("%+v is not right", short(v))
		}
	}
	for _, v := range spoiltValues() {
		if impl.ValueRight(v) {
			t.Errorf("%+v is right", short(v))
		}
	}
}

func TestValuesThatAreNotRightTellNothing(t *testing.T) {
	for _, v := range spoiltValues() {
		if impl.Truth(v) || impl.ToNumber(v) != missing || impl.ToText(v) != "" || impl.TypeOf(v) != "" {
			t.Errorf("%+v: %v %+v %q %q", short(v), impl.Truth(v), impl.ToNumber(v), impl.ToText(v), impl.TypeOf(v))
		}
		others := append(rightValues(), spoiltValues()...)
		for _, other := range others {
			wantNothingOfTwo(t, v, other)
			wantNothingOfTwo(t, other, v)
		}
	}
}

func wantNothingOfTwo(t *testing.T, a, b impl.Value) {
	t.Helper()
	if impl.Alike(a, b) || impl.Equal(a, b) || impl.Less(a, b) != missing {
		t.Errorf("%+v, %+v: %v %v %+v", short(a), short(b), impl.Alike(a, b), impl.Equal(a, b), impl.Less(a, b))
	}
	for _, op := range []string{"+", "-", "*", "/", "%", "", "&&"} {
		if got := impl.Compute(op, a, b); got != missing {
			t.Errorf("%+v %s %+v: %+v", short(a), op, short(b), short(got))
		}
	}
}

func TestOneValue(t *testing.T) {
	long := strings.Repeat("x", 1000)
	for _, c := range []struct {
		v      impl.Value
		truth  bool
		kind   string
		text   string
		number impl.Value
	}{
		{missing, false, "undefined", "undefined", bad},
		{null, false, "object", "null", num(0)},
		{no, false, "boolean", "false", num(0)},
		{yes, true, "boolean", "true", num(1)},
		{num(0), false, "number", "0", num(0)},
		{num(1), true, "number", "1", num(1)},
		{num(-1), true, "number", "-1", num(-1)},
		{num(1200), true, "number", "1200", num(1200)},
		{num(impl.MaxNumber), true, "number", "9007199254740992", num(impl.MaxNumber)},
		{num(-impl.MaxNumber), true, "number", "-9007199254740992", num(-impl.MaxNumber)},
		{bad, false, "number", "NaN", bad},
		{written(""), false, "string", "", num(0)},
		{written(" "), true, "string", " ", num(0)},
		{written("0"), true, "string", "0", num(0)},
		{written("false"), true, "string", "false", bad},
		{written(" 12 "), true, "string", " 12 ", num(12)},
		{written("a\n\xff\x00"), true, "string", "a\n\xff\x00", bad},
		{written(long), true, "string", long, bad},
		{ref(0), true, "object", "[object]", bad},
		{ref(399), true, "object", "[object]", bad},
	} {
		if got := impl.Truth(c.v); got != c.truth {
			t.Errorf("Truth %+v: %v", short(c.v), got)
		}
		if got := impl.TypeOf(c.v); got != c.kind {
			t.Errorf("TypeOf %+v: %q", short(c.v), got)
		}
		if got := impl.ToText(c.v); got != c.text {
			t.Errorf("ToText %+v: %q", short(c.v), got)
		}
		if got := impl.ToNumber(c.v); got != c.number {
			t.Errorf("ToNumber %+v: %+v", short(c.v), got)
		}
	}
}

func TestNumbersOfTexts(t *testing.T) {
	for text, want := range map[string]impl.Value{
		"0": num(0), "-0": num(0), "7": num(7), "-7": num(-7), "10": num(10),
		" 7": num(7), "7 ": num(7), "  -7   ": num(-7), "   ": num(0),
		strings.Repeat(" ", 1000): num(0), strings.Repeat(" ", 499) + "5" + strings.Repeat(" ", 500): num(5),
		"007": num(7), "-007": num(-7), "00": num(0), "-00": num(0), "000000000000012": num(12),
		"999999999999999": num(999999999999999), "-999999999999999": num(-999999999999999),
		"100000000000000": num(100000000000000), " 123456789012345 ": num(123456789012345),
		"1000000000000000": bad, "-1000000000000000": bad, "9007199254740992": bad, "99999999999999999999": bad,
		"-": bad, " - ": bad, "--1": bad, "- 1": bad, "1-": bad, "1 1": bad, "-1 1": bad, "+1": bad, "-+1": bad,
		"1.0": bad, "1e3": bad, "0x1": bad, "1_0": bad, "a": bad, "1a": bad, "a1": bad, "1/": bad, "1:": bad, "/": bad, ":": bad,
		"\t1": bad, "1\n": bad, "\n": bad, "\t": bad, "1\x00": bad, "\xff": bad, "\xc2\xa01": bad, "1\r": bad, "\v": bad,
		"\xd9\xa1": bad, "NaN": bad, "true": bad, "null": bad, "undefined": bad, "[object]": bad,
	} {
		if got := impl.ToNumber(written(text)); got != want {
			t.Errorf("%s: %+v, want %+v", short(written(text)).Text, got, want)
		}
	}
}

// TestNumbersOfTextsByEachByte puts each byte ahead of, within and behind a number.
func TestNumbersOfTextsByEachByte(t *testing.T) {
	for b := range 256 {
		c := string([]byte{byte(b)})
		digit := int64(b - '0')
		ahead, within, behind := bad, bad, bad
		switch {
		case b >= '0' && b <= '9':
			ahead, within, behind = num(100*digit+12), num(102+10*digit), num(120+digit)
		case b == ' ':
			ahead, behind = num(12), num(12)
		case b == '-':
			ahead = num(-12)
		}
		for text, want := range map[string]impl.Value{c + "12": ahead, "1" + c + "2": within, "12" + c: behind} {
			if got := impl.ToNumber(written(text)); got != want {
				t.Errorf("%q: %+v, want %+v", text, got, want)
			}
		}
	}
}
