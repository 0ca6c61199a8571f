package plan_test

import (
	"bytes"
	"math"
	"slices"
	"strings"
	"testing"

	"drayage/api"
	"drayage/plan"
)

// The chapter's example, which is one of the whole as well.
func TestExamples(t *testing.T) {
	p := []api.Step{
		{Work: api.Work{What: api.WorkHold, N: 2, Name: []byte("a")}, Tries: 3, Wait: 5, Back: true},
		{Work: api.Work{What: api.WorkShip}, Tries: 1, Wait: 9},
	}
	const text = "hold 2 a tries 3 wait 5 back\nship tries 1 wait 9\n"
	if err := plan.Check(p); err != api.OK {
		t.Errorf("Check: %d", err)
	}
	if got, err := plan.Print(p); got != text || err != api.OK {
		t.Errorf("Print: %q, %d", got, err)
	}
	if q, n, err := plan.Parse(text); !same(q, p) || n != 0 || err != api.OK {
		t.Errorf("Parse: %v, %d, %d", q, n, err)
	}
	if q, n, err := plan.Parse("ship tries 01 wait 9\n"); len(q) != 0 || n != 1 || err != api.ErrLine {
		t.Errorf("Parse: %v, %d, %d", q, n, err)
	}
}

// cycle returns n steps, the ordinary ones again and again.
func cycle(n int) []api.Step {
	var p []api.Step
	for i := range n {
		l := ordinary()
		p = append(p, l[i%len(l)].s)
	}
	return p
}

func TestSizes(t *testing.T) {
	for n := 1; n <= api.MaxSteps; n++ {
		wantValid(t, "some steps", cycle(n))
		wantValid(t, "the same step", slices.Repeat([]api.Step{oneOf(api.WorkShip)}, n))
	}
	for _, n := range []int{0, api.MaxSteps + 1, 18, 31, 32, 33, 255, 256, 256 + 5, 1<<16 + 5, 1 << 18} {
		wantInvalid(t, "too few steps, or too many", slices.Repeat([]api.Step{oneOf(api.WorkShip)}, n))
	}
	wantInvalid(t, "one step too many", cycle(api.MaxSteps+1))
}

func TestNoSteps(t *testing.T) {
	for _, p := range [][]api.Step{nil, {}, make([]api.Step, 0, 9), cycle(3)[:0], cycle(3)[3:]} {
		wantInvalid(t, "no steps", p)
	}
}

// otherKinds are no kinds, though some of them look like one in their last byte or word.
var otherKinds = []int{math.MinInt, -256, -255, -6, -2, -1, 0, 7, 8, 9, 255, 256, 257, 262, 1<<16 + 1, 1<<32 + 1, math.MaxInt}

var numbers = []int{math.MinInt, math.MinInt32, -1000000, -2, -1, 0, 1, 2, 9, 10, 255, 256, 10000, 10001, 65536, api.MaxCount - 1, api.MaxCount, api.MaxCount + 1, math.MaxInt32, 1 << 32, 1<<32 + 1, math.MaxInt}

var names = []string{"", "a", "z", "0", "9", "-", "a-1", "A", "a b", " ", "a\n", "\x00", "é", "\xff", strings.Repeat("n", api.MaxKey-1), strings.Repeat("n", api.MaxKey), strings.Repeat("n", api.MaxKey+1), strings.Repeat("n", 256), strings.Repeat("n", 257), strings.Repeat("n", 70000)}

// Each kind, and each that is none, with each number and each name.
func TestWorks(t *testing.T) {
	kinds := append(slices.Clone(otherKinds), 1, 2, 3, 4, 5, 6)
	right := map[int]int{}
	for _, what := range kinds {
		for _, n := range numbers {
			for _, name := range names {
				for _, undone := range []bool{false, true} {
					s := api.Step{Work: work(what, n, name), Tries: 3, Wait: 5, Back: undone}
					wantAsSaid(t, "a work", []api.Step{s})
					if plan.Check([]api.Step{s}) == api.OK {
						right[what]++
					}
				}
			}
		}
	}
	// 11 of the numbers are from 1 to MaxCount, and 8 of the names are right.
	for what := range 8 {
		if want := map[int]int{1: 2 * 11 * 8, 2: 2, 3: 2 * 11 * 8, 4: 2, 5: 2 * 11, 6: 2 * 8}[what]; right[what] != want {
			t.Errorf("kind %d: %d steps are right, want %d", what, right[what], want)
		}
	}
}

func TestNumbers(t *testing.T) {
	for _, what := range withNumber {
		for _, n := range []int{1, 2, 999999, api.MaxCount} {
			s := oneOf(what)
			s.Work.N = n
			wantValid(t, "a number", []api.Step{s})
		}
		for _, n := range []int{-1, 0, api.MaxCount + 1} {
			s := oneOf(what)
			s.Work.N = n
			wantInvalid(t, "a number out of bounds", []api.Step{s})
		}
	}
	for _, what := range []int{2, 4, 6} {
		wantValid(t, "no number", []api.Step{oneOf(what)})
		for _, n := range []int{-1, 1, api.MaxCount, api.MaxCount + 1} {
			s := oneOf(what)
			s.Work.N = n
			wantInvalid(t, "a number of a kind that has none", []api.Step{s})
		}
	}
}

// isRight tells whether a byte can be in a name.
func isRight(c int) bool {
	return c < 128 && strings.IndexByte("abcdefghijklmnopqrstuvwxyz0123456789-", byte(c)) >= 0
}

// Each byte, alone and at each place of a name of MaxKey bytes.
func TestBytesOfNames(t *testing.T) {
	for _, what := range withName {
		for c := range 256 {
			s := oneOf(what)
			for _, size := range []int{1, 2, 3, api.MaxKey} {
				for at := range size {
					s.Work.Name = bytes.Repeat([]byte{'n'}, size)
					s.Work.Name[at] = byte(c)
					if isRight(c) {
						wantValid(t, "a name", []api.Step{s})
					} else {
						wantInvalid(t, "a name with another byte", []api.Step{s})
					}
				}
			}
			s.Work.Name = bytes.Repeat([]byte{byte(c)}, api.MaxKey+1)
			wantInvalid(t, "a name that is too long", []api.Step{s})
		}
		s := oneOf(what)
		for _, s.Work.Name = range [][]byte{nil, {}, make([]byte, 0, 9)} {
			wantInvalid(t, "no name", []api.Step{s})
		}
	}
}

func TestNamesOfKindsWithout(t *testing.T) {
	for _, what := range []int{2, 4, 5} {
		for c := range 256 {
			s := oneOf(what)
			s.Work.Name = []byte{byte(c)}
			wantInvalid(t, "a name of a kind that has none", []api.Step{s})
		}
		for _, size := range []int{2, api.MaxKey, api.MaxKey + 1, 256, 1 << 16} {
			s := oneOf(what)
			s.Work.Name = bytes.Repeat([]byte{'n'}, size)
			wantInvalid(t, "a name of a kind that has none", []api.Step{s})
		}
		s := oneOf(what)
		for _, s.Work.Name = range [][]byte{nil, {}, make([]byte, 0, 9)} {
			wantValid(t, "no name", []api.Step{s})
		}
	}
}

func TestTries(t *testing.T) {
	for _, x := range ordinary() {
		for _, x.s.Tries = range []int{1, 2, 9, 10, 254, api.MaxTry} {
			wantValid(t, "tries", []api.Step{x.s})
		}
		for _, x.s.Tries = range []int{math.MinInt, -255, -1, 0, api.MaxTry + 1, 257, 511, 512, 1<<16 + 1, 1 << 32, 1<<32 + 1, math.MaxInt} {
			wantInvalid(t, "tries out of bounds", []api.Step{x.s})
		}
	}
}

func TestWaits(t *testing.T) {
	for _, x := range ordinary() {
		for _, x.s.Wait = range []int{1, 2, 9, 10, 255, 256, 257, 9999, api.MaxWait} {
			wantValid(t, "a wait", []api.Step{x.s})
		}
		for _, x.s.Wait = range []int{math.MinInt, -10000, -1, 0, api.MaxWait + 1, 65535, 65536, 65537, 1 << 32, 1<<32 + 1, math.MaxInt} {
			wantInvalid(t, "a wait out of bounds", []api.Step{x.s})
		}
	}
}

func TestBack(t *testing.T) {
	for _, x := range ordinary() {
		for _, x.s.Back = range []bool{false, true} {
			wantValid(t, "a step", []api.Step{x.s})
		}
	}
}

// wrongSteps returns steps each of which is wrong in one part.
func wrongSteps() []api.Step {
	l := []api.Step{{}}
	for _, x := range ordinary() {
		for _, change := range []func(s *api.Step){
			func(s *api.Step) { s.Work.What = 0 },
			func(s *api.Step) { s.Work.What = 7 },
			func(s *api.Step) { s.Work.N = -1 },
			func(s *api.Step) { s.Work.N = api.MaxCount + 1 },
			func(s *api.Step) { s.Work.Name = []byte("A") },
			func(s *api.Step) { s.Work.Name = make([]byte, api.MaxKey+1) },
			func(s *api.Step) { s.Tries = 0 },
			func(s *api.Step) { s.Tries = api.MaxTry + 1 },
			func(s *api.Step) { s.Wait = 0 },
			func(s *api.Step) { s.Wait = api.MaxWait + 1 },
		} {
			s := x.s
			change(&s)
			l = append(l, s)
		}
	}
	return l
}

// One step that is wrong, at each place of plans of several sizes.
func TestOneWrongStep(t *testing.T) {
	for _, n := range []int{1, 2, 3, 7, api.MaxSteps} {
		for at := range n {
			for _, s := range wrongSteps() {
				p := cycle(n)
				p[at] = s
				wantInvalid(t, "a wrong step", p)
			}
		}
	}
}

// A step that is wrong behind the last one of a list is not in the list.
func TestWrongStepsBehind(t *testing.T) {
	p := append(cycle(3), wrongSteps()...)
	wantValid(t, "some steps", p[:3])
	wantInvalid(t, "one step more", p[:4])
	wantInvalid(t, "the wrong ones", p[3:])
}

// All of a plan may be at its bounds at once.
func TestGreatestPlans(t *testing.T) {
	name := strings.Repeat("z", api.MaxKey)
	for _, w := range []api.Work{work(1, api.MaxCount, name), work(2, 0, ""), work(3, api.MaxCount, name), work(4, 0, ""), work(5, api.MaxCount, ""), work(6, 0, name)} {
		wantValid(t, "the greatest", slices.Repeat([]api.Step{back(w, api.MaxTry, api.MaxWait)}, api.MaxSteps))
	}
}
