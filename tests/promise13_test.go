package tests

import (
	"slices"
	"strings"
	"testing"

	"loop.example/g00317/impl"
)

// wantTogether holds a text to promise 13, and tells how many programs it has.
func wantTogether(t *testing.T, text string) int {
	t.Helper()
	parts := impl.SessionParts(text)
	if got := strings.Join(parts, "\n---\n"); got != text {
		t.Errorf("%q has the programs %q", text, parts)
	}
	for _, part := range parts {
		if slices.Contains(strings.Split(part, "\n"), "---") {
			t.Errorf("%q: the program %q has a parting line", text, part)
		}
	}
	return len(parts)
}

// isPromised tells whether no parting line is the first or the last one, or follows another one.
func isPromised(text string) bool {
	lines := strings.Split(strings.TrimSuffix(text, "\n"), "\n")
	if lines[0] == "---" || lines[len(lines)-1] == "---" {
		return false
	}
	for i := range lines[1:] {
		if lines[i] == "---" && lines[i+1] == "---" {
			return false
		}
	}
	return true
}

func TestProgramsPutTogetherAreTheSession(t *testing.T) {
	pieces := append(nearlyParting(), "a", "a\nb", "\n", "\n\n", "a\n", "\na", " ", "\n\na\n\nb\n\n", "(", "print(1)\n// ---\n2", "a\r\n---\r\nb")
	for _, piece := range pieces {
		for _, end := range []string{"", "\n", "\n\n"} {
			for count := 1; count <= 10; count++ {
				text := session(times(count, piece)...) + end
				if got := wantTogether(t, text); got != count {
					t.Errorf("%q has %d programs, not %d", text, got, count)
				}
				wantParts(t, text, append(times(count-1, piece), piece+end)...)
			}
		}
		for _, other := range pieces {
			if got := wantTogether(t, session(piece, other, "", piece)); got != 4 {
				t.Errorf("%q, %q: %d programs", piece, other, got)
			}
		}
	}
	wantTogether(t, "")
	wantTogether(t, strings.Repeat("a", impl.MaxBytes))
	wantTogether(t, strings.Repeat("a\n", 1995)+"\n---\n12345")
}

func TestDrawnSessionsPutTogether(t *testing.T) {
	d := &draws{state: 13}
	held := map[int]int{}
	for range 20000 {
		text := drawnSession(d, 1+d.below(24), 4+d.below(4))
		if d.below(2) == 0 {
			text += "\n"
		}
		if !isPromised(text) || strings.Count("\n"+text+"\n", "\n---\n") > 9 {
			continue
		}
		held[wantTogether(t, text)]++
		if t.Failed() {
			return
		}
	}
	for count := 1; count <= 6; count++ {
		if held[count] < 50 {
			t.Errorf("only %d sessions of %d programs were held", held[count], count)
		}
	}
}

// What the promise leaves out is not so.
func TestSessionsThatAreNotPutTogether(t *testing.T) {
	for _, text := range []string{"---", "---\na", "a\n---", "a\n---\n---\nb", "---\n---\n"} {
		if isPromised(text) || strings.Join(impl.SessionParts(text), "\n---\n") == text {
			t.Errorf("%q is put together again", text)
		}
	}
}
