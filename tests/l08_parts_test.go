package tests

import (
	"slices"
	"strings"
	"testing"
	"unsafe"

	"loop.example/g00317/impl"
)

// lineParts is a model of SessionParts without its limits: it goes by a list of lines.
func lineParts(text string) []string {
	lines := strings.SplitAfter(text, "\n")
	parts := []string{""}
	for _, line := range lines {
		last := len(parts) - 1
		if strings.TrimSuffix(line, "\n") == "---" {
			parts[last] = strings.TrimSuffix(parts[last], "\n")
			parts = append(parts, "")
			continue
		}
		parts[last] += line
	}
	return parts
}

func wantParts(t *testing.T, text string, want ...string) {
	t.Helper()
	if got := impl.SessionParts(text); !slices.Equal(got, want) {
		t.Errorf("SessionParts(%.60q): got %.40q, want %.40q", text, got, want)
	}
}

func TestPartsOfASession(t *testing.T) {
	wantParts(t, "", "")
	wantParts(t, "a", "a")
	wantParts(t, "a\n", "a\n")
	wantParts(t, "\n", "\n")
	wantParts(t, "\n\n", "\n\n")
	wantParts(t, "a\nb\n\nc", "a\nb\n\nc")
	wantParts(t, "a\n---\nb", "a", "b")
	wantParts(t, "a\n---\nb\n", "a", "b\n")
	wantParts(t, "a\nb\n---\nc\nd\n---\ne\nf\n", "a\nb", "c\nd", "e\nf\n")
	// Of the last line alone the line feed is not of the program; those of empty lines around are.
	wantParts(t, "a\n\n---\nb", "a\n", "b")
	wantParts(t, "a\n\n\n---\nb", "a\n\n", "b")
	wantParts(t, "a\n---\n\nb", "a", "\nb")
	wantParts(t, "a\n\n---\n\nb\n\n", "a\n", "\nb\n\n")
	wantParts(t, "\n---\n\n", "", "\n")
	wantParts(t, "\n\n---\n", "\n", "")
	wantParts(t, "a\n---\n\n---\nb", "a", "", "b")
	wantParts(t, "a\n---\n\n\n---\nb", "a", "\n", "b")
}

func TestPartingLinesAtTheEnds(t *testing.T) {
	wantParts(t, "---", "", "")
	wantParts(t, "---\n", "", "")
	wantParts(t, "---\n\n", "", "\n")
	wantParts(t, "\n---", "", "")
	wantParts(t, "---\na", "", "a")
	wantParts(t, "---\na\n", "", "a\n")
	wantParts(t, "a\n---", "a", "")
	wantParts(t, "a\n---\n", "a", "")
	wantParts(t, "a\n---\n\n", "a", "\n")
	wantParts(t, "---\na\n---", "", "a", "")
	wantParts(t, "---\n---", "", "", "")
	wantParts(t, "---\n---\n", "", "", "")
	wantParts(t, "---\n\n---", "", "", "")
	wantParts(t, "a\n---\n---\nb", "a", "", "b")
	wantParts(t, "a\n---\n---\n---\nb\n", "a", "", "", "b\n")
}

// nearlyParting are lines that are not parting ones, though nearly so.
func nearlyParting() []string {
	return []string{
		"-", "--", "----", "-----", "------", " ---", "--- ", " --- ", "\t---", "---\t", "---\r", "\r---", "---;", ";---", "---//", "//---", "-- -", "- --", "\"---\"", "--_", "a---", "---a", "---\x00", "\x00---",
		"--\xe2\x80\x94", "\xe2\x80\x94", "+++", "===", "--- ---", "---\v", "---\x85", "\xff---",
	}
}

func TestLinesThatAreNearlyPartingOnes(t *testing.T) {
	for _, line := range nearlyParting() {
		for _, text := range []string{line, line + "\n", "a\n" + line + "\nb", line + "\nb", "a\n" + line, "a\n" + line + "\n", "\n" + line + "\n\n"} {
			wantParts(t, text, text)
		}
		wantParts(t, line+"\n---\n"+line, line, line)
		wantParts(t, "---\n"+line+"\n---\n", "", line, "")
	}
}

func TestHowManyPartsThereMayBe(t *testing.T) {
	for _, program := range []string{"a", "a\nb", "\n", ";", "(", strings.Repeat("x", 300)} {
		for count := 1; count <= 13; count++ {
			want := times(count, program)
			text := strings.Join(want, "\n---\n")
			if count > 10 {
				wantParts(t, text)
				wantParts(t, text+"\n")
				continue
			}
			wantParts(t, text, want...)
			want[count-1] += "\n"
			wantParts(t, text+"\n", want...)
		}
	}
	// Parting lines alone make one more program than they are.
	for lines := 0; lines <= 12; lines++ {
		want := times(lines+1, "")
		if lines+1 > 10 {
			want = nil
		}
		wantParts(t, strings.Repeat("---\n", lines), want...)
		wantParts(t, strings.TrimSuffix(strings.Repeat("---\n", lines), "\n"), want...)
	}
	wantParts(t, strings.Repeat("---\n", 1000))
	wantParts(t, strings.Repeat("\n", 100)+strings.Repeat("a\n---\n", 10))
}

func TestHowLongASessionMayBe(t *testing.T) {
	full := strings.Repeat("a", impl.MaxBytes)
	wantParts(t, full, full)
	wantParts(t, full+"a")
	wantParts(t, full+"\n")
	half := strings.Repeat("b", impl.MaxBytes/2-3)
	wantParts(t, half+"\n---\n"+half+"\n", half, half+"\n")
	wantParts(t, half+"\n---\n"+half+"c", half, half+"c")
	wantParts(t, half+"\n---\n"+half+"\n\n")
	wantParts(t, half+"c\n---\n"+half+"\n")
	wantParts(t, strings.Repeat("\n", impl.MaxBytes), strings.Repeat("\n", impl.MaxBytes))
	wantParts(t, strings.Repeat("\n", impl.MaxBytes+1))
	wantParts(t, strings.Repeat("\n", impl.MaxBytes-4)+"---\n", strings.Repeat("\n", impl.MaxBytes-5), "")
	wantParts(t, strings.Repeat("\n", impl.MaxBytes-3)+"---\n")
	wantParts(t, strings.Repeat("x", 1<<20))
}

// drawnSession draws lines of which many are parting ones, or nearly so.
func drawnSession(d *draws, lines int, parting int) string {
	near := nearlyParting()
	var list []string
	for range lines {
		switch d.below(parting) {
		case 0:
			list = append(list, "---")
		case 1:
			list = append(list, near[d.below(len(near))])
		case 2:
			list = append(list, "")
		default:
			list = append(list, d.text(8))
		}
	}
	return strings.Join(list, "\n")
}

func TestPartsAreAsTheLinesTell(t *testing.T) {
	d := &draws{state: 81}
	few, many := 0, 0
	for range 5000 {
		text := drawnSession(d, d.below(30), 3+d.below(6))
		want := lineParts(text)
		if len(want) > 10 {
			want = nil
			many++
		} else {
			few++
		}
		wantParts(t, text, want...)
	}
	if few < 1000 || many < 100 {
		t.Errorf("%d had few programs, %d too many", few, many)
	}
}

func TestPartsShareNothing(t *testing.T) {
	for _, text := range []string{"a whole program", "first one\n---\nsecond one\n---\nthird one\n", "---\nsecond\n---\n", "like\n---\nlike\n---\nlike"} {
		bytes := []byte(text)
		given := unsafe.String(&bytes[0], len(bytes))
		parts := impl.SessionParts(given)
		wantApart(t, "SessionParts", append([]string{given}, parts...)...)
		wantApart(t, "SessionParts, twice", append(slices.Clone(parts), impl.SessionParts(given)...)...)
		if string(bytes) != text {
			t.Errorf("the text %q became %q", text, bytes)
		}
		// What is written into the bytes of the argument, or into one answer, is not seen in another.
		kept := slices.Clone(parts)
		second := impl.SessionParts(given)
		for i := range bytes {
			bytes[i] = '#'
		}
		for i := range second {
			second[i] = "changed"
		}
		_ = append(second[:0], "changed")
		if !slices.Equal(parts, kept) || !slices.Equal(parts, lineParts(text)) {
			t.Errorf("the parts of %q became %q", text, parts)
		}
	}
}
