package plan_test

import (
	"math/rand"
	"strings"
	"testing"

	"drayage/api"
	"drayage/plan"
)

// What is printed is parsed to the same plan, and two plans with one text are the same.
func TestAnyPlans(t *testing.T) {
	r := source()
	seen := map[string][]api.Step{}
	for range 5000 {
		p := anyPlan(r, false)
		wantValid(t, "any plan", p)
		text, _ := plan.Print(p)
		if other, ok := seen[text]; ok && !same(p, other) {
			t.Errorf("%v and %v have one text", p, other)
		}
		seen[text] = p
		wantAsRead(t, "the text of any plan", text)
	}
}

func TestAnySteps(t *testing.T) {
	r := source()
	right := 0
	for range 20000 {
		p := anyPlan(r, true)
		if valid(p) {
			right++
		}
		wantAsSaid(t, "any steps", p)
	}
	if right < 1000 || right > 19000 {
		t.Errorf("%d of 20000 were right: too few of one sort to tell", right)
	}
}

// anyText returns a text that is often almost that of a plan.
func anyText(r *rand.Rand) string {
	one := func(l ...string) string { return l[r.Intn(len(l))] }
	number := func() string {
		return one("1", "2", "9", "10", "255", "256", "10000", "10001", "1000000", "1000001", "0", "01")
	}
	name := func() string {
		return one("a", "a-1", "back", "tries", "7", "A", strings.Repeat("n", 32), strings.Repeat("n", 33))
	}
	text := ""
	for range r.Intn(20) {
		words := []string{one("hold", "authorise") + " " + one("1", "2", "1000000") + " " + one("a", "b-1", "tries", "5"), "ship", "capture", "book " + one("1", "10", "1000000"), "notice " + one("a", "back", "wait")}[r.Intn(5)]
		words += " tries " + one("1", "9", "255") + " wait " + one("1", "90", "10000")
		if r.Intn(2) == 0 {
			words += " back"
		}
		if r.Intn(20) == 0 {
			words = one("hold", "ship", "book", "notice", "authorise", "capture", "tries") + " " + one(number(), name(), number()+" "+name()) + " tries " + number() + " wait " + number() + one("", " back")
		}
		text += words + "\n"
	}
	if r.Intn(4) == 0 && text != "" {
		at := r.Intn(len(text))
		text = text[:at] + one("", " ", "\n", "\t", "0", "a", "\xff", "back", " back", "\r\n") + text[at+r.Intn(2):]
	}
	return text
}

// What is parsed is printed as the same text.
func TestAnyTexts(t *testing.T) {
	r := source()
	count := map[api.Errno]int{}
	for range 20000 {
		text := anyText(r)
		_, _, err := plan.Parse(text)
		count[err]++
		wantAsRead(t, "any text", text)
	}
	for _, err := range []api.Errno{api.OK, api.ErrPlan, api.ErrLine} {
		if count[err] < 1000 {
			t.Errorf("%d texts of 20000 had error %d: too few to tell", count[err], err)
		}
	}
}

func TestAnyBytes(t *testing.T) {
	const likely = "hold ship book tries wait back 129\n\n"
	r := source()
	for range 20000 {
		b := make([]byte, r.Intn(60))
		for i := range b {
			b[i] = byte(r.Intn(256))
			if r.Intn(2) == 0 {
				b[i] = likely[r.Intn(len(likely))]
			}
		}
		wantAsRead(t, "any bytes", string(b))
	}
}

// The same is answered whenever it is asked, and whatever was asked before.
func TestNothingIsKept(t *testing.T) {
	r := source()
	for range 2000 {
		text := anyText(r)
		p, n, err := plan.Parse(text)
		plan.Parse(anyText(r))
		plan.Print(anyPlan(r, true))
		if q, m, e := plan.Parse(text); !same(q, p) || m != n || e != err {
			t.Errorf("Parse of %q: %v, %d, %d, and %v, %d, %d", text, p, n, err, q, m, e)
		}
	}
}

func FuzzParse(f *testing.F) {
	for _, text := range texts() {
		f.Add(text)
	}
	for _, wrong := range wrongLines {
		f.Add(wrong)
		f.Add("ship tries 1 wait 9\n" + wrong + "\n")
		f.Add(strings.Repeat("ship tries 1 wait 9\n", 16) + wrong)
		f.Add(strings.Repeat("ship tries 1 wait 9\n", 17) + wrong)
	}
	f.Fuzz(func(t *testing.T, text string) {
		wantAsRead(t, "fuzz", text)
	})
}

func FuzzPrint(f *testing.F) {
	for _, x := range ordinary() {
		f.Add(x.s.Work.What, x.s.Work.N, x.s.Work.Name, x.s.Tries, x.s.Wait, x.s.Back, 1)
	}
	f.Add(7, 1000001, []byte("A"), 256, 10001, true, 17)
	f.Add(0, -1, make([]byte, 33), 0, 0, false, 0)
	f.Fuzz(func(t *testing.T, what, n int, name []byte, tries, wait int, undone bool, steps int) {
		s := api.Step{Work: api.Work{What: what, N: n, Name: name}, Tries: tries, Wait: wait, Back: undone}
		var p []api.Step
		for range steps % 20 {
			p = append(p, s)
		}
		wantAsSaid(t, "fuzz", p)
	})
}
