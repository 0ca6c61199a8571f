package plan_test

import (
	"strings"
	"testing"

	"drayage/api"
	"drayage/plan"
)

// texts returns texts of plans that between them have each kind of line, with each word.
func texts() []string {
	name := strings.Repeat("z", api.MaxKey)
	l := []string{
		textOf(ordinary()),
		"hold 2 a tries 3 wait 5 back\nship tries 1 wait 9\n",
		"hold 1000000 " + name + " tries 255 wait 10000 back\nnotice " + name + " tries 255 wait 10000\n",
		"notice back tries 1 wait 1 back\nnotice tries tries 1 wait 1\nhold 1 1 tries 1 wait 1\n",
		strings.Repeat("capture tries 1 wait 1\n", api.MaxSteps),
	}
	for _, x := range ordinary() {
		l = append(l, x.line+"\n")
	}
	return l
}

// Cut behind a line feed it is a shorter plan, and cut elsewhere the last line is wrong.
func TestCutTexts(t *testing.T) {
	for _, text := range texts() {
		whole, _, _ := plan.Parse(text)
		for n := range text {
			cut := text[:n]
			lines := strings.Count(cut, "\n")
			wantAsRead(t, "cut", cut)
			switch {
			case n == 0:
				wantError(t, "cut to nothing", cut, 0, api.ErrPlan)
			case strings.HasSuffix(cut, "\n"):
				if p, line, err := plan.Parse(cut); err != api.OK || line != 0 || !same(p, whole[:lines]) {
					t.Errorf("Parse of %q: %v, %d, %d, want %v", cut, p, line, err, whole[:lines])
				}
			default:
				wantError(t, "cut", cut, lines+1, api.ErrLine)
			}
		}
		for n := range text {
			wantAsRead(t, "cut ahead", text[n:])
		}
	}
}

func TestByteMore(t *testing.T) {
	for _, text := range texts() {
		for at := range len(text) + 1 {
			for c := range 256 {
				wantAsRead(t, "a byte more", text[:at]+string([]byte{byte(c)})+text[at:])
			}
		}
	}
}

func TestByteLess(t *testing.T) {
	for _, text := range texts() {
		for at := range text {
			wantAsRead(t, "a byte less", text[:at]+text[at+1:])
			wantAsRead(t, "a byte twice", text[:at+1]+text[at:])
		}
	}
}

// Each byte changed to each other one: what is still a plan is another one.
func TestChangedBytes(t *testing.T) {
	for _, text := range texts() {
		whole, _, _ := plan.Parse(text)
		b := []byte(text)
		for at := range b {
			for c := range 256 {
				b[at] = byte(c)
				changed := string(b)
				wantAsRead(t, "a byte changed", changed)
				if p, _, err := plan.Parse(changed); err == api.OK && same(p, whole) != (changed == text) {
					t.Errorf("%q and %q are one plan", changed, text)
				}
			}
			b[at] = text[at]
		}
	}
}

// Two bytes changed at once, and neighbours swapped.
func TestTwoChangedBytes(t *testing.T) {
	r := source()
	for _, text := range texts() {
		for at := range len(text) - 1 {
			b := []byte(text)
			b[at], b[at+1] = b[at+1], b[at]
			wantAsRead(t, "neighbours swapped", string(b))
		}
		for range 2000 {
			b := []byte(text)
			for range 2 {
				b[r.Intn(len(b))] = text[r.Intn(len(text))]
			}
			wantAsRead(t, "two bytes changed", string(b))
		}
	}
}

// Lines taken out, doubled and moved leave plans, as long as there are not too many.
func TestOtherLines(t *testing.T) {
	lines := strings.SplitAfter(textOf(ordinary()), "\n")
	lines = lines[:len(lines)-1]
	for i := range lines {
		for j := range lines {
			text := strings.Join(lines[:i], "") + strings.Join(lines[j:], "")
			wantAsRead(t, "other lines", text)
			_, line, err := plan.Parse(text)
			n := i + len(lines) - j
			if want := n >= 1 && n <= api.MaxSteps; line != 0 || want != (err == api.OK) || !want && err != api.ErrPlan {
				t.Errorf("Parse of %d lines: %d, %d", n, line, err)
			}
		}
	}
}
