package tests

import (
	"reflect"
	"strings"
	"testing"

	"loop.example/g00317/impl"
)

// draws is a row of numbers that is the same each time.
type draws struct {
	state uint64
}

func (d *draws) below(n int) int {
	d.state = d.state*6364136223846793005 + 1442695040888963407
	return int(d.state>>33) % n
}

func (d *draws) text(most int) string {
	const likely = "\"\\\nn /ab1"
	out := make([]byte, d.below(most+1))
	for i := range out {
		out[i] = byte(32 + d.below(95))
		if d.below(2) == 0 {
			out[i] = likely[d.below(len(likely))]
		}
	}
	return string(out)
}

func TestWhatIsQuotedIsOneToken(t *testing.T) {
	d := &draws{state: 1}
	texts := []string{"", "\\", "\"", "\n", "\\n", strings.Repeat("a", 1000), strings.Repeat("\n", 1000), strings.Repeat("\\", 1000)}
	for range 2000 {
		texts = append(texts, d.text(40))
	}
	for range 50 {
		texts = append(texts, d.text(1000))
	}
	for _, text := range texts {
		shown := impl.Quote(text)
		wantTokens(t, shown, quoted(0, text), end(int64(len(shown))))
		n := int64(len(shown))
		wantTokens(t, "a="+shown+"+1",
			name(0, "a"), mark(1, "="), quoted(2, text), mark(n+2, "+"), number(n+3, 1), end(n+4))
		wantFault(t, strings.TrimSuffix(shown, "\""), 0)
	}
}

func (d *draws) piece() (string, impl.Token) {
	switch d.below(5) {
	case 0:
		text := string("abzAZ_$"[d.below(7)]) + strings.Repeat("x1", d.below(9))
		return text, name(0, text)
	case 1:
		text := allWords[d.below(len(allWords))]
		return text, word(0, text)
	case 2:
		n := d.below(1 << 30)
		return decimal(n), number(0, int64(n))
	case 3:
		text := d.text(8)
		return impl.Quote(text), quoted(0, text)
	}
	text := allMarks[d.below(len(allMarks))]
	return text, mark(0, text)
}

func decimal(n int) string {
	if n < 10 {
		return string(rune('0' + n))
	}
	return decimal(n/10) + string(rune('0'+n%10))
}

// gap begins with no comment: a mark / ahead of it would be one with that.
func (d *draws) gap() string {
	gaps := []string{" ", "\t", "\n", "  ", " \n\n ", " // x\n", "\t// \"@\xff\n", "\n// y\n\t"}
	return gaps[d.below(len(gaps))]
}

// script tells a script, and the tokens that it is made of.
func (d *draws) script() (string, []impl.Token) {
	var text string
	var want []impl.Token
	for range d.below(30) {
		gap := d.gap()
		shown, token := d.piece()
		text += gap
		token.At, token.Line = int64(len(text)), strings.Contains(gap, "\n")
		text += shown
		want = append(want, token)
	}
	gap := d.gap()
	text += gap
	last := end(int64(len(text)))
	last.Line = strings.Contains(gap, "\n")
	return text, append(want, last)
}

func TestScriptsAreTheirPieces(t *testing.T) {
	d := &draws{state: 2}
	for range 2000 {
		text, want := d.script()
		wantTokens(t, text, want...)
		if t.Failed() {
			return
		}
	}
}

func TestWhatIsAheadMovesTokensAlone(t *testing.T) {
	d := &draws{state: 3}
	for range 1000 {
		text, _ := d.script()
		ahead := d.gap() + d.gap()
		alone, moved := impl.Tokens(text), impl.Tokens(ahead+text)
		if alone.Code != impl.OK || moved.Code != impl.OK || len(alone.Tokens) != len(moved.Tokens) {
			t.Fatalf("%q behind %q: %+v, alone %+v", text, ahead, moved, alone)
		}
		for i := range alone.Tokens {
			alone.Tokens[i].At += int64(len(ahead))
		}
		alone.Tokens[0].Line = alone.Tokens[0].Line || strings.Contains(ahead, "\n")
		if !reflect.DeepEqual(alone, moved) {
			t.Errorf("%q behind %q: got %+v, want %+v", text, ahead, moved, alone)
		}
	}
}

func TestWhatIsAheadMovesFaultsAlone(t *testing.T) {
	d := &draws{state: 4}
	for range 1000 {
		text, _ := d.script()
		ahead := d.gap() + d.gap()
		wrong := []string{"@", "01", "\"a", "\"\\a\"", "&", "1a", "abcdefghijklmnopqrstu"}[d.below(7)]
		wantFault(t, text+" "+wrong, len(text)+1)
		wantFault(t, ahead+text+" "+wrong, len(ahead)+len(text)+1)
	}
}
