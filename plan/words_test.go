package plan_test

import (
	"bytes"
	"fmt"
	"math/rand"
	"regexp"
	"slices"
	"strconv"
	"strings"
	"testing"

	"drayage/api"
	"drayage/plan"
)

// source gives the same numbers in every run, so that a failure can be repeated.
func source() *rand.Rand { return rand.New(rand.NewSource(13)) }

// The kinds that have a number, and those that have a name, as the chapter tells them.
var (
	withNumber = []int{1, 3, 5}
	withName   = []int{1, 3, 6}
)

func work(what, n int, name string) api.Work {
	w := api.Work{What: what, N: n}
	if name != "" {
		w.Name = []byte(name)
	}
	return w
}

// forward is a step that is not undone, and back one that is.
func forward(w api.Work, tries, wait int) api.Step {
	return api.Step{Work: w, Tries: tries, Wait: wait}
}

func back(w api.Work, tries, wait int) api.Step {
	return api.Step{Work: w, Tries: tries, Wait: wait, Back: true}
}

// a sample is a step, and its line without the line feed.
type sample struct {
	s    api.Step
	line string
}

// ordinary returns steps of all kinds.
func ordinary() []sample {
	return []sample{
		{forward(work(1, 2, "a"), 3, 5), "hold 2 a tries 3 wait 5"},
		{back(work(1, 30, "blue-paint-7"), 4, 60), "hold 30 blue-paint-7 tries 4 wait 60 back"},
		{forward(work(2, 0, ""), 3, 5), "ship tries 3 wait 5"},
		{back(work(2, 0, ""), 40, 600), "ship tries 40 wait 600 back"},
		{forward(work(3, 2, "ann"), 3, 5), "authorise 2 ann tries 3 wait 5"},
		{back(work(3, 77, "ann-2"), 6, 9), "authorise 77 ann-2 tries 6 wait 9 back"},
		{forward(work(4, 0, ""), 3, 5), "capture tries 3 wait 5"},
		{back(work(4, 0, ""), 8, 1234), "capture tries 8 wait 1234 back"},
		{forward(work(5, 2, ""), 3, 5), "book 2 tries 3 wait 5"},
		{back(work(5, 19, ""), 4, 7), "book 19 tries 4 wait 7 back"},
		{forward(work(6, 0, "hi"), 3, 5), "notice hi tries 3 wait 5"},
		{back(work(6, 0, "on-its-way"), 2, 8), "notice on-its-way tries 2 wait 8 back"},
	}
}

// stepsOf and textOf return the steps of samples, and the text of the plan that they are.
func stepsOf(l []sample) []api.Step {
	var p []api.Step
	for _, x := range l {
		p = append(p, x.s)
	}
	return p
}

func textOf(l []sample) string {
	var lines strings.Builder
	for _, x := range l {
		lines.WriteString(x.line + "\n")
	}
	return lines.String()
}

// oneOf returns an ordinary step of a kind.
func oneOf(what int) api.Step {
	for _, x := range ordinary() {
		if x.s.Work.What == what {
			return x.s
		}
	}
	return api.Step{Work: api.Work{What: what}, Tries: 3, Wait: 5}
}

// copyOf returns steps that share nothing with p.
func copyOf(p []api.Step) []api.Step {
	q := slices.Clone(p)
	for i := range q {
		q[i].Work.Name = bytes.Clone(q[i].Work.Name)
	}
	return q
}

func same(p, q []api.Step) bool {
	return slices.EqualFunc(p, q, func(a, b api.Step) bool {
		return a.Work.What == b.Work.What && a.Work.N == b.Work.N && bytes.Equal(a.Work.Name, b.Work.Name) &&
			a.Tries == b.Tries && a.Wait == b.Wait && a.Back == b.Back
	})
}

// valid says what the chapter says about a plan.
func valid(p []api.Step) bool {
	for _, s := range p {
		if !validWork(s.Work) || s.Tries < 1 || s.Tries > 255 || s.Wait < 1 || s.Wait > 10000 {
			return false
		}
	}
	return len(p) >= 1 && len(p) <= 16
}

func validWork(w api.Work) bool {
	if w.What < 1 || w.What > 6 {
		return false
	}
	if slices.Contains(withNumber, w.What) && (w.N < 1 || w.N > 1000000) || !slices.Contains(withNumber, w.What) && w.N != 0 {
		return false
	}
	if !slices.Contains(withName, w.What) {
		return len(w.Name) == 0
	}
	return len(w.Name) >= 1 && len(w.Name) <= 32 && strings.Trim(string(w.Name), "abcdefghijklmnopqrstuvwxyz0123456789-") == "" && !strings.ContainsFunc(string(w.Name), wrongInName)
}

// wrongInName is asked as well, because Trim looks at the ends alone.
func wrongInName(r rune) bool {
	return !strings.ContainsRune("abcdefghijklmnopqrstuvwxyz0123456789-", r)
}

// printed writes a plan as the chapter says it.
func printed(p []api.Step) string {
	text := ""
	for _, s := range p {
		switch s.Work.What {
		case 1:
			text += fmt.Sprintf("hold %d %s", s.Work.N, s.Work.Name)
		case 2:
			text += "ship"
		case 3:
			text += fmt.Sprintf("authorise %d %s", s.Work.N, s.Work.Name)
		case 4:
			text += "capture"
		case 5:
			text += fmt.Sprintf("book %d", s.Work.N)
		case 6:
			text += fmt.Sprintf("notice %s", s.Work.Name)
		}
		text += fmt.Sprintf(" tries %d wait %d", s.Tries, s.Wait)
		if s.Back {
			text += " back"
		}
		text += "\n"
	}
	return text
}

// aLine has the words of a line, whose numbers may be too great.
var aLine = regexp.MustCompile(`\A(?:(hold|authorise) ([1-9][0-9]*) ([a-z0-9-]{1,32})|(ship|capture)|(book) ([1-9][0-9]*)|(notice) ([a-z0-9-]{1,32})) tries ([1-9][0-9]*) wait ([1-9][0-9]*)( back)?\n\z`)

// read returns the step of a line with its line feed, as the chapter says it.
func read(line string) (api.Step, bool) {
	m := aLine.FindStringSubmatch(line)
	if m == nil {
		return api.Step{}, false
	}
	whats := map[string]int{"hold": 1, "ship": 2, "authorise": 3, "capture": 4, "book": 5, "notice": 6}
	s := api.Step{Work: work(whats[m[1]+m[4]+m[5]+m[7]], 0, m[3]+m[8]), Back: m[11] != ""}
	fits := true
	number := func(digits string, most int) int {
		n, err := strconv.Atoi(digits)
		fits = fits && err == nil && n <= most
		return n
	}
	if m[2]+m[6] != "" {
		s.Work.N = number(m[2]+m[6], 1000000)
	}
	s.Tries, s.Wait = number(m[9], 255), number(m[10], 10000)
	return s, fits
}

// parsed reads a text as the chapter says it.
func parsed(text string) ([]api.Step, int, api.Errno) {
	lines := strings.SplitAfter(text, "\n")
	if lines[len(lines)-1] == "" {
		lines = lines[:len(lines)-1]
	}
	var p []api.Step
	for i, line := range lines[:min(len(lines), 17)] {
		s, ok := read(line)
		if !ok {
			return nil, i + 1, api.ErrLine
		}
		p = append(p, s)
	}
	if len(lines) == 0 || len(lines) > 16 {
		return nil, 0, api.ErrPlan
	}
	return p, 0, api.OK
}

// short is a text as a failure tells it.
func short(text string) string {
	if len(text) > 300 {
		return fmt.Sprintf("%q.. (%d bytes)", text[:300], len(text))
	}
	return strconv.Quote(text)
}

// wantAsSaid holds all calls against what the chapter says about these steps.
func wantAsSaid(t *testing.T, name string, p []api.Step) {
	t.Helper()
	if valid(p) {
		wantValid(t, name, p)
	} else {
		wantInvalid(t, name, p)
	}
}

func wantValid(t *testing.T, name string, p []api.Step) {
	t.Helper()
	if err := plan.Check(p); err != api.OK {
		t.Errorf("%s: Check of %v: %d", name, p, err)
	}
	want := printed(p)
	if text, err := plan.Print(p); err != api.OK || text != want {
		t.Errorf("%s: Print of %v: %s, %d, want %q", name, p, short(text), err, want)
	}
	if q, n, err := plan.Parse(want); err != api.OK || n != 0 || !same(q, p) {
		t.Errorf("%s: Parse of %q: %v, %d, %d, want %v", name, want, q, n, err, p)
	}
}

func wantInvalid(t *testing.T, name string, p []api.Step) {
	t.Helper()
	if err := plan.Check(p); err != api.ErrPlan {
		t.Errorf("%s: Check of %v: %d, want %d", name, p, err, api.ErrPlan)
	}
	if text, err := plan.Print(p); err != api.ErrPlan || text != "" {
		t.Errorf("%s: Print of %v: %s, %d, want nothing, %d", name, p, short(text), err, api.ErrPlan)
	}
}

// wantAsRead holds Parse against what the chapter says about a text, and what it answers against Check and Print.
func wantAsRead(t *testing.T, name, text string) {
	t.Helper()
	want, line, e := parsed(text)
	p, n, err := plan.Parse(text)
	if err != e || n != line || !same(p, want) {
		t.Errorf("%s: Parse of %s: %v, %d, %d, want %v, %d, %d", name, short(text), p, n, err, want, line, e)
	}
	if err != api.OK {
		return
	}
	if err := plan.Check(p); err != api.OK {
		t.Errorf("%s: Check of what %q is: %d", name, text, err)
	}
	if again, err := plan.Print(p); err != api.OK || again != text {
		t.Errorf("%s: Print of what %q is: %s, %d", name, text, short(again), err)
	}
}

// wantError wants no plan of a text, for this reason.
func wantError(t *testing.T, name, text string, line int, err api.Errno) {
	t.Helper()
	if p, n, e := plan.Parse(text); e != err || n != line || len(p) != 0 {
		t.Errorf("%s: Parse of %s: %v, %d, %d, want nothing, %d, %d", name, short(text), p, n, e, line, err)
	}
}

// wantWrongLine wants a line to be wrong, wherever it stands.
func wantWrongLine(t *testing.T, name, line string) {
	t.Helper()
	const right = "ship tries 1 wait 9\n"
	wantError(t, name, line+"\n", 1, api.ErrLine)
	// Without its line feed a line that is empty is none.
	if line != "" {
		wantError(t, name, line, 1, api.ErrLine)
	}
	wantError(t, name, line+"\n"+right, 1, api.ErrLine)
	wantError(t, name, right+line+"\n"+right, 2, api.ErrLine)
	wantError(t, name, strings.Repeat(right, 15)+line+"\n", 16, api.ErrLine)
	wantError(t, name, strings.Repeat(right, 16)+line+"\n", 17, api.ErrLine)
	wantError(t, name, strings.Repeat(right, 17)+line+"\n", 0, api.ErrPlan)
}

// wantRightLine wants a line to be that of a step, wherever it stands.
func wantRightLine(t *testing.T, name, line string, s api.Step) {
	t.Helper()
	other := forward(work(2, 0, ""), 1, 9)
	for _, p := range [][]api.Step{{s}, {s, other}, {other, s, other}, {s, s}, append(slices.Repeat([]api.Step{other}, 15), s)} {
		text := ""
		for _, x := range p {
			if same([]api.Step{x}, []api.Step{other}) {
				text += "ship tries 1 wait 9\n"
			} else {
				text += line + "\n"
			}
		}
		if q, n, err := plan.Parse(text); err != api.OK || n != 0 || !same(q, p) {
			t.Errorf("%s: Parse of %q: %v, %d, %d, want %v", name, text, q, n, err, p)
		}
		if again, err := plan.Print(p); err != api.OK || again != text {
			t.Errorf("%s: Print of %v: %s, %d, want %q", name, p, short(again), err, text)
		}
	}
}

// anyStep returns a step whose parts are often at their bounds, and sometimes beyond them if it may be wrong.
func anyStep(r *rand.Rand, wrong bool) api.Step {
	one := func(l ...int) int { return l[r.Intn(len(l))] }
	const letters = "abcdefghijklmnopqrstuvwxyz0123456789-"
	what := 1 + r.Intn(6)
	w := api.Work{What: what}
	if slices.Contains(withNumber, what) {
		w.N = one(1, 2, 9, 10, 999999, 1000000, 1+r.Intn(1000000))
	}
	if slices.Contains(withName, what) {
		for range one(1, 2, 31, 32, 1+r.Intn(32)) {
			w.Name = append(w.Name, letters[r.Intn(len(letters))])
		}
	}
	s := api.Step{Work: w, Tries: one(1, 2, 254, 255, 1+r.Intn(255)), Wait: one(1, 2, 9999, 10000, 1+r.Intn(10000)), Back: r.Intn(2) == 0}
	if !wrong {
		return s
	}
	switch r.Intn(6) {
	case 0:
		s.Work.What = one(-1, 0, 7, 8, 257, 1+r.Intn(6))
	case 1:
		s.Work.N = one(-1, 0, 1, 1000001, 1<<32+1)
	case 2:
		s.Work.Name = make([]byte, one(0, 1, 33))
	case 3:
		s.Work.Name = append(bytes.Clone(w.Name), byte(r.Intn(256)))
	case 4:
		s.Tries = one(-1, 0, 256, 257, 1<<32+1)
	case 5:
		s.Wait = one(-1, 0, 10001, 65537, 1<<32+1)
	}
	return s
}

// anyPlan returns a plan, or one that may be wrong somewhere.
func anyPlan(r *rand.Rand, wrong bool) []api.Step {
	n := 1 + r.Intn(16)
	bad := -1
	if wrong && r.Intn(4) == 0 {
		n = []int{0, 17, 18, 40}[r.Intn(4)]
	} else if wrong {
		bad = r.Intn(n)
	}
	var p []api.Step
	for i := range n {
		p = append(p, anyStep(r, i == bad))
	}
	return p
}
