package epochs_test

import (
	"math"
	"math/rand"
	"slices"
	"testing"

	"drayage/api"
	"drayage/epochs"
)

// source gives the same numbers in every run, so that a failure can be repeated.
func source() *rand.Rand { return rand.New(rand.NewSource(6)) }

const (
	greatestLsn   = math.MaxUint64
	greatestEpoch = math.MaxUint32
)

func start(epoch uint32, lsn uint64) api.Start { return api.Start{Epoch: epoch, Lsn: lsn} }

func list(l ...api.Start) []api.Start { return l }

// isTable asks every two starts, not only neighbours.
func isTable(t []api.Start) bool {
	for i, s := range t {
		if s.Epoch < 1 || s.Lsn < 1 {
			return false
		}
		for _, later := range t[i+1:] {
			if later.Epoch <= s.Epoch || later.Lsn <= s.Lsn {
				return false
			}
		}
	}
	return true
}

// atByTheWords goes through all starts of a table.
func atByTheWords(t []api.Start, lsn uint64) uint32 {
	epoch := uint32(0)
	for _, s := range t {
		if s.Lsn <= lsn {
			epoch = s.Epoch
		}
	}
	return epoch
}

// endByTheWords goes through all starts of a table.
func endByTheWords(t []api.Start, last uint64, epoch uint32) uint64 {
	end := uint64(0)
	for i, s := range t {
		if s.Epoch > epoch || s.Lsn > last {
			continue
		}
		end = last
		if i+1 < len(t) && t[i+1].Lsn-1 < last {
			end = t[i+1].Lsn - 1
		}
	}
	return end
}

// forkByTheWords tries every number that can be the fork. Between two neighbouring starts of either table no epoch changes, so it is enough to ask at the starts.
func forkByTheWords(a []api.Start, lastA uint64, b []api.Start, lastB uint64) uint64 {
	starts := append(slices.Clone(a), b...)
	numbers := []uint64{lastA, lastB}
	for _, s := range starts {
		numbers = append(numbers, s.Lsn-1)
	}
	same := func(n uint64) bool {
		for _, s := range starts {
			if s.Lsn <= n && atByTheWords(a, s.Lsn) != atByTheWords(b, s.Lsn) {
				return false
			}
		}
		return true
	}
	fork := uint64(0)
	for _, n := range numbers {
		if n <= lastA && n <= lastB && n > fork && same(n) {
			fork = n
		}
	}
	return fork
}

// cutByTheWords goes through all starts of a table.
func cutByTheWords(t []api.Start, lsn uint64) []api.Start {
	var l []api.Start
	for _, s := range t {
		if s.Lsn <= lsn {
			l = append(l, s)
		}
	}
	return l
}

// edges returns the numbers ahead of, at and behind every start, and the least and the greatest ones.
func edges(t []api.Start) []uint64 {
	l := []uint64{0, 1, greatestLsn - 1, greatestLsn}
	for _, s := range t {
		l = append(l, s.Lsn-1, s.Lsn)
		if s.Lsn < greatestLsn {
			l = append(l, s.Lsn+1)
		}
	}
	return l
}

// epochEdges returns the epochs below, at and above those of t, and the least and the greatest ones.
func epochEdges(t []api.Start) []uint32 {
	l := []uint32{0, 1, greatestEpoch - 1, greatestEpoch}
	for _, s := range t {
		l = append(l, s.Epoch-1, s.Epoch)
		if s.Epoch < greatestEpoch {
			l = append(l, s.Epoch+1)
		}
	}
	return l
}

type sample struct {
	name string
	t    []api.Start
}

// ordinary returns tables.
func ordinary() []sample {
	return []sample{
		{"empty", nil},
		{"one", list(start(1, 1))},
		{"one that begins later", list(start(4, 10))},
		{"the chapter's a", list(start(1, 1), start(3, 5))},
		{"the chapter's b", list(start(1, 1), start(2, 4))},
		{"neighbours", list(start(1, 1), start(2, 2), start(3, 3))},
		{"three", list(start(2, 1), start(5, 10), start(9, 20))},
		{"five", list(start(3, 4), start(4, 8), start(8, 9), start(20, 30), start(21, 50))},
		{"more Lsns than 32 bits hold", list(start(1, 1), start(2, 1<<32), start(3, 1<<32+2))},
		{"one with the greatest numbers", list(start(greatestEpoch, greatestLsn))},
		{"up to the greatest numbers", list(start(1, 1), start(greatestEpoch-1, greatestLsn-1), start(greatestEpoch, greatestLsn))},
	}
}

// noTables returns lists that are no tables: every fault, at the first, a middle and the last start.
func noTables() []sample {
	return []sample{
		{"the zero start", list(start(0, 0))},
		{"one with epoch 0", list(start(0, 1))},
		{"one with Lsn 0", list(start(1, 0))},

		{"epoch 0 first", list(start(0, 1), start(2, 5), start(3, 9))},
		{"epoch 0 in the middle", list(start(1, 1), start(0, 5), start(3, 9))},
		{"epoch 0 last", list(start(1, 1), start(2, 5), start(0, 9))},
		{"Lsn 0 first", list(start(1, 0), start(2, 5), start(3, 9))},
		{"Lsn 0 in the middle", list(start(1, 1), start(2, 0), start(3, 9))},
		{"Lsn 0 last", list(start(1, 1), start(2, 5), start(3, 0))},
		{"the zero start first", list(start(0, 0), start(2, 5), start(3, 9))},
		{"the zero start in the middle", list(start(1, 1), start(0, 0), start(3, 9))},
		{"the zero start last", list(start(1, 1), start(2, 5), start(0, 0))},

		{"two with the same epoch", list(start(2, 1), start(2, 3))},
		{"two with the same Lsn", list(start(1, 3), start(2, 3))},
		{"the same epoch first", list(start(2, 1), start(2, 5), start(3, 9), start(4, 13))},
		{"the same epoch in the middle", list(start(1, 1), start(2, 5), start(2, 9), start(4, 13))},
		{"the same epoch last", list(start(1, 1), start(2, 5), start(3, 9), start(3, 13))},
		{"the same Lsn first", list(start(1, 5), start(2, 5), start(3, 9), start(4, 13))},
		{"the same Lsn in the middle", list(start(1, 1), start(2, 5), start(3, 5), start(4, 13))},
		{"the same Lsn last", list(start(1, 1), start(2, 5), start(3, 9), start(4, 9))},
		{"the same start first", list(start(1, 1), start(1, 1), start(3, 9), start(4, 13))},
		{"the same start in the middle", list(start(1, 1), start(2, 5), start(2, 5), start(4, 13))},
		{"the same start last", list(start(1, 1), start(2, 5), start(3, 9), start(3, 9))},

		{"two with a falling epoch", list(start(2, 1), start(1, 3))},
		{"two with a falling Lsn", list(start(1, 3), start(2, 1))},
		{"a falling epoch first", list(start(3, 1), start(2, 5), start(4, 9), start(5, 13))},
		{"a falling epoch in the middle", list(start(1, 1), start(3, 5), start(2, 9), start(5, 13))},
		{"a falling epoch last", list(start(1, 1), start(3, 5), start(4, 9), start(2, 13))},
		{"a falling Lsn first", list(start(1, 6), start(2, 5), start(3, 9), start(4, 13))},
		{"a falling Lsn in the middle", list(start(1, 1), start(2, 9), start(3, 5), start(4, 13))},
		{"a falling Lsn last", list(start(1, 1), start(2, 5), start(3, 9), start(4, 8))},
		{"all in reverse", list(start(3, 9), start(2, 5), start(1, 1))},

		{"an epoch that falls by one from the greatest", list(start(greatestEpoch, 1), start(greatestEpoch-1, 2))},
		{"an Lsn that falls by one from the greatest", list(start(1, greatestLsn), start(2, greatestLsn-1))},
		{"an epoch that begins again at 1", list(start(greatestEpoch, 1), start(1, 2))},
		{"an Lsn that begins again at 1", list(start(1, greatestLsn), start(2, 1))},
		{"an Lsn that falls in its upper half alone", list(start(1, 1<<32+1), start(2, 2))},
	}
}

// anyList returns a list of starts near one another or at the edges, about half of them tables.
func anyList(r *rand.Rand) []api.Start {
	s := start(0, 0)
	if r.Intn(4) == 0 {
		s = start(greatestEpoch-uint32(r.Intn(12)), greatestLsn-uint64(r.Intn(12)))
	}
	var l []api.Start
	for range r.Intn(7) {
		s.Epoch += uint32(1 + r.Intn(2))
		s.Lsn += uint64(1 + r.Intn(3))
		if r.Intn(12) == 0 {
			s.Epoch -= uint32(r.Intn(3))
		}
		if r.Intn(12) == 0 {
			s.Lsn -= uint64(r.Intn(4))
		}
		l = append(l, s)
	}
	return l
}

// anyTable returns a table of which, mostly, one like base is a beginning.
func anyTable(r *rand.Rand, base []api.Start) []api.Start {
	t := slices.Clone(base[:r.Intn(len(base)+1)])
	s := start(0, 0)
	if len(t) > 0 {
		s = t[len(t)-1]
	}
	for range r.Intn(5) {
		s = start(s.Epoch+uint32(1+r.Intn(3)), s.Lsn+uint64(1+r.Intn(3)))
		t = append(t, s)
	}
	return t
}

func wantTable(t *testing.T, name string, l []api.Start) {
	t.Helper()
	if err := epochs.Check(l); err != api.OK {
		t.Errorf("%s: Check of %v: %d, want OK", name, l, err)
	}
}

func wantAt(t *testing.T, name string, l []api.Start, lsn uint64, want uint32) {
	t.Helper()
	if got := epochs.At(l, lsn); got != want {
		t.Errorf("%s: At(%v, %d): %d, want %d", name, l, lsn, got, want)
	}
}

func wantEnd(t *testing.T, name string, l []api.Start, last uint64, epoch uint32, want uint64) {
	t.Helper()
	if got := epochs.End(l, last, epoch); got != want {
		t.Errorf("%s: End(%v, %d, %d): %d, want %d", name, l, last, epoch, got, want)
	}
}

// wantFork asks both ways round.
func wantFork(t *testing.T, name string, a []api.Start, lastA uint64, b []api.Start, lastB uint64, want uint64) {
	t.Helper()
	if got := epochs.Fork(a, lastA, b, lastB); got != want {
		t.Errorf("%s: Fork(%v, %d, %v, %d): %d, want %d", name, a, lastA, b, lastB, got, want)
	}
	if got := epochs.Fork(b, lastB, a, lastA); got != want {
		t.Errorf("%s: Fork(%v, %d, %v, %d): %d, want %d", name, b, lastB, a, lastA, got, want)
	}
}

func wantCut(t *testing.T, name string, l []api.Start, lsn uint64, want []api.Start) {
	t.Helper()
	if got := epochs.Cut(l, lsn); !slices.Equal(got, want) {
		t.Errorf("%s: Cut(%v, %d): %v, want %v", name, l, lsn, got, want)
	}
}

func wantAdded(t *testing.T, name string, l []api.Start, s api.Start) {
	t.Helper()
	want := append(slices.Clone(l), s)
	if got, err := epochs.Add(l, s); err != api.OK || !slices.Equal(got, want) {
		t.Errorf("%s: Add(%v, %v): %v, %d, want %v, OK", name, l, s, got, err, want)
	}
}

func wantNotAdded(t *testing.T, name string, l []api.Start, s api.Start) {
	t.Helper()
	if got, err := epochs.Add(l, s); err != api.ErrTable || len(got) != 0 {
		t.Errorf("%s: Add(%v, %v): %v, %d, want nothing and ErrTable", name, l, s, got, err)
	}
}

// wantNothing expects of every function what it answers to a list that is no table.
func wantNothing(t *testing.T, name string, l []api.Start) {
	t.Helper()
	if err := epochs.Check(l); err != api.ErrTable {
		t.Errorf("%s: Check of %v: %d, want ErrTable", name, l, err)
	}
	for _, lsn := range []uint64{0, 1, 2, 5, 9, 10, 13, 100, greatestLsn} {
		wantAt(t, name, l, lsn, 0)
		wantCut(t, name, l, lsn, nil)
		wantFork(t, name+" with itself", l, lsn, l, lsn, 0)
		wantFork(t, name+" with a table", l, lsn, list(start(1, 1), start(2, 5)), lsn, 0)
		wantFork(t, name+" with an empty table", l, lsn, nil, lsn, 0)
		for _, epoch := range []uint32{0, 1, 2, 3, 4, 5, greatestEpoch} {
			wantEnd(t, name, l, lsn, epoch, 0)
		}
	}
	wantNotAdded(t, name, l, start(6, 20))
	wantNotAdded(t, name, l, start(greatestEpoch, greatestLsn))
	wantNotAdded(t, name, l, start(0, 0))
}

// wantAsSaid expects of all functions that take one list what the chapter says about l.
func wantAsSaid(t *testing.T, name string, l []api.Start) {
	t.Helper()
	if !isTable(l) {
		wantNothing(t, name, l)
		return
	}
	wantTable(t, name, l)
	for _, lsn := range edges(l) {
		wantAt(t, name, l, lsn, atByTheWords(l, lsn))
		wantCut(t, name, l, lsn, cutByTheWords(l, lsn))
		for _, epoch := range epochEdges(l) {
			wantEnd(t, name, l, lsn, epoch, endByTheWords(l, lsn, epoch))
			wantAddedAsSaid(t, name, l, start(epoch, lsn))
		}
	}
}

func wantAddedAsSaid(t *testing.T, name string, l []api.Start, s api.Start) {
	t.Helper()
	if isTable(append(slices.Clone(l), s)) {
		wantAdded(t, name, l, s)
	} else {
		wantNotAdded(t, name, l, s)
	}
}
