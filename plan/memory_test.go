package plan_test

import (
	"bytes"
	"fmt"
	"runtime"
	"slices"
	"strings"
	"testing"

	"drayage/api"
	"drayage/plan"
)

// spoil writes over the names of p and their spare capacity, and over its steps and the room behind them.
func spoil(p []api.Step) {
	p = p[:cap(p)]
	for i := range p {
		name := p[i].Work.Name[:cap(p[i].Work.Name)]
		for j := range name {
			name[j] = '!'
		}
		p[i] = wrongStep()
	}
}

func wrongStep() api.Step { return back(work(9, 99, "spoilt"), 999, 99999) }

// roomy returns the steps of p with spare capacity that has something in it, in the list and in each name.
func roomy(p []api.Step) []api.Step {
	q := append(copyOf(p), back(work(6, 0, "behind"), 7, 7))
	for i := range q {
		name := q[i].Work.Name
		q[i].Work.Name = append(slices.Clip(name), "behind"...)[:len(name)]
	}
	return q[:len(p)]
}

// all tells everything of p and of the room behind it and its names.
func all(p []api.Step) string {
	story := ""
	for _, s := range p[:cap(p)] {
		story += fmt.Sprintf("%v %q;", s, s.Work.Name[:cap(s.Work.Name)])
	}
	return fmt.Sprint(len(p), story)
}

func TestArgumentsStay(t *testing.T) {
	l := [][]api.Step{nil, {}, cycle(1), cycle(12), cycle(api.MaxSteps), cycle(api.MaxSteps + 1)}
	for _, s := range wrongSteps() {
		l = append(l, []api.Step{oneOf(1), s, oneOf(6)})
	}
	for _, p := range l {
		p = roomy(p)
		before := all(p)
		for range 2 {
			plan.Check(p)
			plan.Print(p)
		}
		if after := all(p); after != before {
			t.Errorf("%s has become %s", before, after)
		}
	}
}

// What was printed stays when the plan is written over, and the next text of the plan is another one.
func TestPrintedStays(t *testing.T) {
	p := roomy(stepsOf(ordinary()))
	want := textOf(ordinary())
	text, _ := plan.Print(p)
	for i := range p {
		if len(p[i].Work.Name) > 0 {
			p[i].Work.Name[0] = 'q'
		}
		p[i].Tries = 77
	}
	if text != want {
		t.Errorf("%q has become %q", want, text)
	}
	if again, err := plan.Print(p); again != printed(p) || again == want || err != api.OK {
		t.Errorf("Print of what was written over: %q, %d", again, err)
	}
	spoil(p)
	if text != want {
		t.Errorf("%q has become %q", want, text)
	}
	wantInvalid(t, "spoilt", p)
}

// What was parsed shares nothing with what is parsed from the same text again.
func TestParsedIsNew(t *testing.T) {
	for _, text := range texts() {
		one, _, _ := plan.Parse(text)
		two, _, _ := plan.Parse(text)
		want := copyOf(two)
		if !same(one, two) {
			t.Errorf("two plans of %q: %v, %v", text, one, two)
		}
		spoil(one)
		if !same(two, want) {
			t.Errorf("two plans of %q share memory: %v", text, two)
		}
		wantAsRead(t, "spoilt", text)
	}
}

// Each name that Parse returns is memory of its own, with its spare capacity.
func TestNamesAreApart(t *testing.T) {
	for _, text := range append(texts(), strings.Repeat("notice same tries 1 wait 1\n", api.MaxSteps), "hold 1 a tries 1 wait 1\nauthorise 1 b tries 1 wait 1\nnotice c tries 1 wait 1\n") {
		p, _, _ := plan.Parse(text)
		want := copyOf(p)
		for i := range p {
			name := p[i].Work.Name
			_ = append(name, bytes.Repeat([]byte("+"), cap(name)-len(name))...)
			if !same(p, want) {
				t.Errorf("behind name %d of %q there is another one: %v", i, text, p)
			}
			for j := range name {
				name[j] = '!'
			}
			want[i].Work.Name = bytes.Repeat([]byte("!"), len(name))
			if !same(p, want) {
				t.Errorf("name %d of %q is also another one: %v", i, text, p)
			}
		}
	}
}

// What is put behind a plan that was parsed is in no other one.
func TestPlansAreExtendedApart(t *testing.T) {
	for _, text := range texts() {
		p, _, _ := plan.Parse(text)
		q, _, _ := plan.Parse(text)
		one, two := append(p, oneOf(1)), append(q, oneOf(2))
		if n := len(p); one[n].Work.What != 1 || two[n].Work.What != 2 {
			t.Errorf("%v, %v", one[n], two[n])
		}
		wantAsRead(t, "extended", text)
	}
}

// Nil and empty lists and names are the same, and a zero value stands beside each error.
func TestNilAndEmpty(t *testing.T) {
	for _, what := range []int{2, 4, 5} {
		bare, empty := oneOf(what), oneOf(what)
		bare.Work.Name, empty.Work.Name = nil, []byte{}
		one, e1 := plan.Print([]api.Step{bare})
		two, e2 := plan.Print([]api.Step{empty})
		if one != two || e1 != api.OK || e2 != api.OK {
			t.Errorf("%q, %d and %q, %d", one, e1, two, e2)
		}
		if p, _, _ := plan.Parse(one); len(p) != 1 || len(p[0].Work.Name) != 0 {
			t.Errorf("Parse of %q: %v", one, p)
		}
	}
	for _, p := range [][]api.Step{nil, {}} {
		if text, err := plan.Print(p); text != "" || err != api.ErrPlan {
			t.Errorf("Print of no steps: %q, %d", text, err)
		}
		if err := plan.Check(p); err != api.ErrPlan {
			t.Errorf("Check of no steps: %d", err)
		}
	}
	for text, line := range map[string]int{"": 0, "\n": 1, "x": 1, "ship tries 1 wait 1\nx": 2, strings.Repeat("ship tries 1 wait 1\n", 17): 0} {
		if p, n, err := plan.Parse(text); len(p) != 0 || n != line || err == api.OK {
			t.Errorf("Parse of %q: %v, %d, %d", text, p, n, err)
		}
	}
}

// inUseNow returns how many bytes are in use once the rest was given back.
func inUseNow() uint64 {
	runtime.GC()
	runtime.GC()
	var m runtime.MemStats
	runtime.ReadMemStats(&m)
	return m.HeapAlloc
}

// What comes in is not retained: each text is a piece of one of 1 MiB, and so is each name.
func TestNothingIsRetained(t *testing.T) {
	before := inUseNow()
	var plans [][]api.Step
	var printed []string
	for i := range 20 {
		text := fmt.Sprintf("notice name-%d tries 1 wait 1\n", i)
		p, _, _ := plan.Parse((text + strings.Repeat("x", 1<<20))[:len(text)])
		plans = append(plans, p)
		name := append([]byte("name"), make([]byte, 1<<20)...)[:4]
		s, _ := plan.Print([]api.Step{{Work: api.Work{What: api.WorkNotice, Name: name}, Tries: 1, Wait: 1}})
		printed = append(printed, s)
	}
	if after := inUseNow(); after > before+1<<21 {
		t.Errorf("%d bytes are in use, %d before", after, before)
	}
	for i, p := range plans {
		if len(p) != 1 || string(p[0].Work.Name) != fmt.Sprint("name-", i) || printed[i] != "notice name tries 1 wait 1\n" {
			t.Errorf("%d: %v, %q", i, p, printed[i])
		}
	}
}
