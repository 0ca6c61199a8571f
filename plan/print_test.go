package plan_test

import (
	"strings"
	"testing"

	"drayage/api"
	"drayage/plan"
)

// The text of each kind of step, written out.
func TestEveryKind(t *testing.T) {
	name := strings.Repeat("n", api.MaxKey)
	l := append(ordinary(),
		sample{forward(work(1, 1, "a"), 1, 1), "hold 1 a tries 1 wait 1"},
		sample{back(work(1, api.MaxCount, name), api.MaxTry, api.MaxWait), "hold 1000000 " + name + " tries 255 wait 10000 back"},
		sample{forward(work(2, 0, ""), 1, 1), "ship tries 1 wait 1"},
		sample{back(work(2, 0, ""), api.MaxTry, api.MaxWait), "ship tries 255 wait 10000 back"},
		sample{forward(work(3, 1, "-"), 1, 1), "authorise 1 - tries 1 wait 1"},
		sample{back(work(3, api.MaxCount, name), api.MaxTry, api.MaxWait), "authorise 1000000 " + name + " tries 255 wait 10000 back"},
		sample{forward(work(4, 0, ""), 1, 1), "capture tries 1 wait 1"},
		sample{back(work(4, 0, ""), api.MaxTry, api.MaxWait), "capture tries 255 wait 10000 back"},
		sample{forward(work(5, 1, ""), 1, 1), "book 1 tries 1 wait 1"},
		sample{back(work(5, api.MaxCount, ""), api.MaxTry, api.MaxWait), "book 1000000 tries 255 wait 10000 back"},
		sample{forward(work(6, 0, "0"), 1, 1), "notice 0 tries 1 wait 1"},
		sample{back(work(6, 0, name), api.MaxTry, api.MaxWait), "notice " + name + " tries 255 wait 10000 back"},
	)
	for _, x := range l {
		wantRightLine(t, "a kind", x.line, x.s)
		wantValid(t, "a kind", []api.Step{x.s})
	}
}

// Names that look like other words of a line.
func TestNamesLikeWords(t *testing.T) {
	for _, name := range []string{"hold", "ship", "authorise", "capture", "book", "notice", "tries", "wait", "back", "1", "0", "007", "256", "1000001", "-1", "-", "--", "tries-1", "a-", "-a", "0x1"} {
		wantRightLine(t, name, "hold 4 "+name+" tries 5 wait 6", forward(work(1, 4, name), 5, 6))
		wantRightLine(t, name, "hold 4 "+name+" tries 5 wait 6 back", back(work(1, 4, name), 5, 6))
		wantRightLine(t, name, "authorise 4 "+name+" tries 5 wait 6", forward(work(3, 4, name), 5, 6))
		wantRightLine(t, name, "authorise 4 "+name+" tries 5 wait 6 back", back(work(3, 4, name), 5, 6))
		wantRightLine(t, name, "notice "+name+" tries 5 wait 6", forward(work(6, 0, name), 5, 6))
		wantRightLine(t, name, "notice "+name+" tries 5 wait 6 back", back(work(6, 0, name), 5, 6))
	}
}

// The lines stand in the order of the steps, whatever the order is.
func TestOrders(t *testing.T) {
	l := ordinary()
	for first := range l {
		for second := range l {
			some := []sample{l[first], l[second], l[first]}
			p, text := stepsOf(some), textOf(some)
			if got, err := plan.Print(p); got != text || err != api.OK {
				t.Errorf("Print of %v: %q, %d, want %q", p, got, err, text)
			}
			if q, n, err := plan.Parse(text); !same(q, p) || n != 0 || err != api.OK {
				t.Errorf("Parse of %q: %v, %d, %d, want %v", text, q, n, err, p)
			}
		}
	}
}

// A part of a step that is another one is another text.
func TestOneForm(t *testing.T) {
	l := []api.Step{}
	for _, x := range ordinary() {
		l = append(l, x.s)
		for _, change := range []func(s *api.Step){
			func(s *api.Step) { s.Work.N++ },
			func(s *api.Step) { s.Work.N *= 10 },
			func(s *api.Step) { s.Work.Name = append([]byte("0"), s.Work.Name...) },
			func(s *api.Step) { s.Work.Name = append([]byte("-"), s.Work.Name...) },
			func(s *api.Step) { s.Tries++ },
			func(s *api.Step) { s.Tries *= 10 },
			func(s *api.Step) { s.Wait++ },
			func(s *api.Step) { s.Wait *= 10 },
			func(s *api.Step) { s.Back = !s.Back },
		} {
			s := x.s
			change(&s)
			l = append(l, s)
		}
	}
	texts := map[string]api.Step{}
	for _, s := range l {
		text, err := plan.Print([]api.Step{s})
		if valid([]api.Step{s}) != (err == api.OK) {
			t.Errorf("Print of %v: %q, %d", s, text, err)
		}
		if err != api.OK {
			continue
		}
		if other, ok := texts[text]; ok && !same([]api.Step{s}, []api.Step{other}) {
			t.Errorf("%v and %v have one text, %q", s, other, text)
		}
		texts[text] = s
	}
	if len(texts) < 60 {
		t.Errorf("there were %d texts: too few to tell", len(texts))
	}
}
