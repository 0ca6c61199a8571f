package epochs_test

import (
	"encoding/binary"
	"slices"
	"testing"

	"drayage/api"
	"drayage/epochs"
)

// smallTables returns all tables with Epochs and Lsns up to these.
func smallTables(epoch uint32, lsn uint64) [][]api.Start {
	all := [][]api.Start{nil}
	var extend func(t []api.Start, after api.Start)
	extend = func(t []api.Start, after api.Start) {
		for e := after.Epoch + 1; e <= epoch; e++ {
			for l := after.Lsn + 1; l <= lsn; l++ {
				longer := append(slices.Clone(t), start(e, l))
				all = append(all, longer)
				extend(longer, start(e, l))
			}
		}
	}
	extend(nil, api.Start{})
	return all
}

func TestAllSmallTables(t *testing.T) {
	all := smallTables(4, 5)
	if len(all) != 126 { // as many as there are choices of 4 out of 9
		t.Fatalf("%d tables", len(all))
	}
	for _, l := range all {
		wantAsSaid(t, "small", l)
	}
}

func TestAllSmallLists(t *testing.T) {
	var starts []api.Start
	for epoch := range uint32(4) {
		for lsn := range uint64(4) {
			starts = append(starts, start(epoch, lsn))
		}
	}
	for _, a := range starts {
		for _, b := range starts {
			for _, c := range starts {
				l := list(a, b, c)
				want := api.ErrTable
				if isTable(l) {
					want = api.OK
				}
				if err := epochs.Check(l); err != want {
					t.Errorf("Check of %v: %d, want %d", l, err, want)
				}
			}
		}
	}
}

// The fork of small journals is counted entry by entry.
func TestForkOfAllSmallTables(t *testing.T) {
	const lsns = 5
	all := smallTables(4, lsns)
	for _, a := range all {
		for _, b := range all {
			equal := uint64(0)
			for equal < lsns+2 && atByTheWords(a, equal+1) == atByTheWords(b, equal+1) {
				equal++
			}
			for lastA := range uint64(lsns + 2) {
				for lastB := range lastA + 1 {
					want := min(lastA, lastB, equal)
					if epochs.Fork(a, lastA, b, lastB) != want || epochs.Fork(b, lastB, a, lastA) != want {
						wantFork(t, "small", a, lastA, b, lastB, want)
					}
				}
			}
		}
	}
}

// wantForkAsSaid expects of the fork what the chapter says about it and about what is cut there.
func wantForkAsSaid(t *testing.T, name string, a []api.Start, lastA uint64, b []api.Start, lastB uint64) {
	t.Helper()
	n := epochs.Fork(a, lastA, b, lastB)
	if !isTable(a) || !isTable(b) {
		wantFork(t, name, a, lastA, b, lastB, 0)
		return
	}
	wantFork(t, name, a, lastA, b, lastB, forkByTheWords(a, lastA, b, lastB))
	if cutA, cutB := epochs.Cut(a, n), epochs.Cut(b, n); !slices.Equal(cutA, cutB) {
		t.Errorf("%s: %v and %v, cut at their fork %d, are %v and %v", name, a, b, n, cutA, cutB)
	}
	if n < lastA && n < lastB && epochs.At(a, n+1) == epochs.At(b, n+1) {
		t.Errorf("%s: %v and %v have the same epoch behind their fork %d", name, a, b, n)
	}
}

func TestForkOfAnyLists(t *testing.T) {
	r := source()
	early, late := 0, 0
	for range 50000 {
		base := anyList(r)
		a, b := anyTable(r, base), anyTable(r, base)
		lastsA, lastsB := edges(a), edges(b)
		lastA, lastB := lastsA[r.Intn(len(lastsA))], lastsB[r.Intn(len(lastsB))]
		wantForkAsSaid(t, "any", a, lastA, b, lastB)
		switch n := epochs.Fork(a, lastA, b, lastB); {
		case n == min(lastA, lastB):
			late++
		case n > 0:
			early++
		}
	}
	if early < 1000 || late < 1000 {
		t.Errorf("%d forks ahead of both last entries and %d at one of them: too few to tell", early, late)
	}
}

type logbook struct {
	t    []api.Start
	last uint64
}

// agree tells whether, wherever both have an epoch, they have the same starts up to that epoch's own.
func agree(a, b logbook) bool {
	headA, headB := cutByTheWords(a.t, a.last), cutByTheWords(b.t, b.last)
	for i, x := range headA {
		for j, y := range headB {
			if x.Epoch == y.Epoch && !slices.Equal(headA[:i+1], headB[:j+1]) {
				return false
			}
		}
	}
	return true
}

// stepBack truncates b as the chapter's step does, until the step changes nothing, and returns its last entry then.
func stepBack(a, b logbook) uint64 {
	for {
		e := epochs.At(b.t, b.last)
		m := epochs.End(a.t, a.last, e)
		f := epochs.At(a.t, m)
		last := min(b.last, m, epochs.End(b.t, b.last, f))
		if last == b.last {
			return last
		}
		b = logbook{epochs.Cut(b.t, last), last}
	}
}

func wantStepsToFork(t *testing.T, a, b logbook) {
	t.Helper()
	if got, want := stepBack(a, b), epochs.Fork(a.t, a.last, b.t, b.last); got != want {
		t.Errorf("%v, %d steps back to %d beside %v, %d; want %d", b.t, b.last, got, a.t, a.last, want)
	}
}

// begins tells whether the first entry, if there is one, begins an epoch, as it does in a journal.
func begins(x logbook) bool {
	return x.last == 0 || len(x.t) > 0 && x.t[0].Lsn == 1
}

func TestStepsBackToTheForkOfAllSmallJournals(t *testing.T) {
	var all []logbook
	for _, l := range smallTables(4, 5) {
		for last := range uint64(7) {
			if x := (logbook{l, last}); begins(x) {
				all = append(all, x)
			}
		}
	}
	tried := 0
	for _, a := range all {
		for _, b := range all {
			if agree(a, b) {
				wantStepsToFork(t, a, b)
				tried++
			}
		}
	}
	if tried < 10000 {
		t.Errorf("only %d pairs: too few to tell", tried)
	}
}

// Every epoch is written by one journal alone: it takes entries of the other, or drops its own ones, ahead of a new epoch.
func TestStepsBackToTheForkOfAnyJournals(t *testing.T) {
	r := source()
	apart := 0
	for range 20000 {
		var x [2]logbook
		for epoch := uint32(1); epoch < 12; epoch += uint32(1 + r.Intn(2)) {
			writer := r.Intn(2)
			w, other := x[writer], x[1-writer]
			if r.Intn(2) == 0 { // a standby that has taken a part of what the other one has
				n := uint64(r.Intn(int(other.last) + 1))
				n = max(n, epochs.Fork(w.t, w.last, other.t, other.last))
				w = logbook{epochs.Cut(other.t, n), n}
			}
			longer, err := epochs.Add(w.t, start(epoch, w.last+1))
			if err != api.OK {
				t.Fatalf("Add of epoch %d to %v: %d", epoch, w.t, err)
			}
			x[writer] = logbook{longer, w.last + uint64(1+r.Intn(4))}
		}
		if !agree(x[0], x[1]) {
			t.Fatalf("the journals %v do not agree", x)
		}
		wantStepsToFork(t, x[0], x[1])
		wantStepsToFork(t, x[1], x[0])
		if n := epochs.Fork(x[0].t, x[0].last, x[1].t, x[1].last); 0 < n && n < min(x[0].last, x[1].last) {
			apart++
		}
	}
	if apart < 1000 {
		t.Errorf("only %d pairs that diverge: too few to tell", apart)
	}
}

// starts reads a list out of 3 bytes for each start: how to go on from the one before it.
func starts(b []byte) []api.Start {
	var l []api.Start
	s := api.Start{}
	for ; len(b) >= 3; b = b[3:] {
		lift := uint(b[0] % 64)
		s.Epoch += uint32(int8(b[1])) << (lift / 2)
		s.Lsn += uint64(int8(b[2])) << lift
		l = append(l, s)
	}
	return l
}

func FuzzOne(f *testing.F) {
	f.Add([]byte(nil))
	f.Add([]byte{0, 1, 1, 0, 2, 4})
	f.Add([]byte{0, 1, 1, 0, 2, 4, 0, 0, 1})
	f.Add([]byte{0, 1, 1, 62, 1, 3})
	f.Add([]byte{0, 255, 255})
	f.Fuzz(func(t *testing.T, b []byte) {
		l := starts(b[:min(len(b), 60)])
		before := slices.Clone(l)
		wantAsSaid(t, "fuzz", l)
		if !slices.Equal(l, before) {
			t.Errorf("the argument was changed: %v, %v", before, l)
		}
	})
}

func FuzzFork(f *testing.F) {
	f.Add([]byte{0, 1, 1}, []byte{0, 2, 4}, []byte{0, 1, 3}, uint64(9), uint64(6))
	f.Add([]byte(nil), []byte{62, 1, 3}, []byte{0, 255, 255}, uint64(greatestLsn), uint64(greatestLsn))
	f.Add([]byte{0, 1, 1, 0, 1, 1}, []byte(nil), []byte{0, 0, 1}, uint64(2), uint64(0))
	f.Fuzz(func(t *testing.T, both, restA, restB []byte, lastA, lastB uint64) {
		both = both[:len(both)/3*3]
		a := starts(slices.Concat(both, restA))
		b := starts(slices.Concat(both, restB))
		if len(a)+len(b) > 200 {
			return
		}
		wantForkAsSaid(t, "fuzz", a, lastA, b, lastB)
		for _, n := range binary.BigEndian.AppendUint64(nil, lastA) {
			wantForkAsSaid(t, "fuzz", a, uint64(n), b, lastB)
		}
	})
}
