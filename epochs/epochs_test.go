package epochs_test

import (
	"slices"
	"testing"

	"drayage/api"
	"drayage/epochs"
)

func TestTables(t *testing.T) {
	for _, x := range ordinary() {
		wantTable(t, x.name, x.t)
		wantAsSaid(t, x.name, x.t)
	}
	wantTable(t, "empty, not nil", list())
	wantAsSaid(t, "empty, not nil", list())
}

func TestListsThatAreNoTables(t *testing.T) {
	for _, x := range noTables() {
		wantNothing(t, x.name, x.t)
	}
}

// The beginnings of a list that is no table are tables up to the fault, and none behind it.
func TestCheckOfEveryBeginning(t *testing.T) {
	for _, x := range noTables() {
		for n := range len(x.t) {
			wantAsSaid(t, "a beginning of "+x.name, x.t[:n])
		}
	}
}

func TestCheckFindsAFaultAtEveryPlace(t *testing.T) {
	whole := func() []api.Start {
		var l []api.Start
		for i := range 20 {
			l = append(l, start(uint32(2*i+2), uint64(3*i+3)))
		}
		return l
	}
	wantTable(t, "whole", whole())
	for i := range 20 {
		for _, s := range []api.Start{start(0, 3), start(2, 0)} {
			l := whole()
			l[i] = s
			wantNothing(t, "a zero", l)
		}
		if i == 0 {
			continue
		}
		for _, s := range []api.Start{
			start(whole()[i-1].Epoch, whole()[i].Lsn),
			start(whole()[i-1].Epoch-1, whole()[i].Lsn),
			start(whole()[i].Epoch, whole()[i-1].Lsn),
			start(whole()[i].Epoch, whole()[i-1].Lsn-1),
		} {
			l := whole()
			l[i] = s
			wantNothing(t, "equal or falling", l)
		}
		l := whole()
		l[i] = start(l[i-1].Epoch+1, l[i-1].Lsn+1)
		wantTable(t, "greater by one", l)
	}
}

func TestAt(t *testing.T) {
	three := list(start(2, 4), start(5, 10), start(9, 20))
	for _, x := range []struct {
		name string
		t    []api.Start
		lsn  uint64
		want uint32
	}{
		{"the chapter's a", list(start(1, 1), start(3, 5)), 4, 1},
		{"the chapter's b", list(start(1, 1), start(2, 4)), 4, 2},

		{"nothing in an empty table", nil, 0, 0},
		{"nothing in an empty table", nil, 1, 0},
		{"nothing in an empty table", nil, greatestLsn, 0},

		{"entry 0", three, 0, 0},
		{"long before the first start", three, 1, 0},
		{"one before the first start", three, 3, 0},
		{"at the first start", three, 4, 2},
		{"one behind the first start", three, 5, 2},
		{"one before the second start", three, 9, 2},
		{"at the second start", three, 10, 5},
		{"one behind the second start", three, 11, 5},
		{"one before the last start", three, 19, 5},
		{"at the last start", three, 20, 9},
		{"one behind the last start", three, 21, 9},
		{"behind 32 bits", three, 1 << 32, 9},
		{"the greatest number", three, greatestLsn, 9},

		{"a first start at 1", list(start(7, 1)), 0, 0},
		{"a first start at 1", list(start(7, 1)), 1, 7},
		{"a start at the greatest number", list(start(1, 1), start(greatestEpoch, greatestLsn)), greatestLsn - 1, 1},
		{"a start at the greatest number", list(start(1, 1), start(greatestEpoch, greatestLsn)), greatestLsn, greatestEpoch},
	} {
		wantAt(t, x.name, x.t, x.lsn, x.want)
	}
}

func TestEnd(t *testing.T) {
	three := list(start(2, 4), start(5, 10), start(9, 20))
	for _, x := range []struct {
		name  string
		t     []api.Start
		last  uint64
		epoch uint32
		want  uint64
	}{
		{"the chapter's", list(start(1, 1), start(3, 5)), 9, 2, 4},
		{"an empty table", nil, 9, 9, 0},
		{"an empty table, the greatest numbers", nil, greatestLsn, greatestEpoch, 0},

		{"epoch 0", three, 30, 0, 0},
		{"an epoch below the first", three, 30, 1, 0},
		{"the first epoch", three, 30, 2, 9},
		{"one above the first", three, 30, 3, 9},
		{"one below the second", three, 30, 4, 9},
		{"the second epoch", three, 30, 5, 19},
		{"one above the second", three, 30, 6, 19},
		{"one below the last", three, 30, 8, 19},
		{"the last epoch", three, 30, 9, 30},
		{"one above the last", three, 30, 10, 30},
		{"the greatest epoch", three, 30, greatestEpoch, 30},

		{"no entry", three, 0, 9, 0},
		{"no entry, epoch 0", three, 0, 0, 0},
		{"last ahead of the first start", three, 3, 9, 0},
		{"last at the first start", three, 4, 9, 4},
		{"last at the first start, its epoch", three, 4, 2, 4},
		{"last at the first start, a lower epoch", three, 4, 1, 0},
		{"last behind the first start", three, 5, 9, 5},
		{"last ahead of the second start", three, 9, 9, 9},
		{"last ahead of the second start, the first epoch", three, 9, 2, 9},
		{"last at the second start", three, 10, 9, 10},
		{"last at the second start, the first epoch", three, 10, 2, 9},
		{"last behind the second start", three, 11, 9, 11},
		{"last ahead of the last start", three, 19, 9, 19},
		{"last ahead of the last start, the second epoch", three, 19, 5, 19},
		{"last at the last start", three, 20, 9, 20},
		{"last at the last start, the second epoch", three, 20, 5, 19},
		{"last behind the last start", three, 21, 9, 21},
		{"last behind the last start, the second epoch", three, 21, 5, 19},
		{"last behind the last start, the first epoch", three, 21, 2, 9},
		{"last behind 32 bits", three, 1<<32 + 4, 9, 1<<32 + 4},
		{"the greatest last", three, greatestLsn, 9, greatestLsn},
		{"the greatest last, the second epoch", three, greatestLsn, 5, 19},

		{"an epoch of one entry", list(start(1, 1), start(2, 2), start(3, 3)), 9, 2, 2},
		{"the first of two epochs, of one entry", list(start(1, 1), start(2, 2)), 2, 1, 1},
		{"ahead of a start at the greatest number", list(start(1, 1), start(2, greatestLsn)), greatestLsn, 1, greatestLsn - 1},
		{"a start at the greatest number", list(start(1, 1), start(2, greatestLsn)), greatestLsn, 2, greatestLsn},
		{"a start at the greatest number that last is ahead of", list(start(1, 1), start(2, greatestLsn)), greatestLsn - 1, 2, greatestLsn - 1},
	} {
		wantEnd(t, x.name, x.t, x.last, x.epoch, x.want)
	}
}

// In a table that begins with entry 1, End is the last of the entries whose epoch is low enough.
func TestEndIsTheLastSuchEntry(t *testing.T) {
	for _, l := range smallTables(4, 5) {
		if len(l) == 0 || l[0].Lsn != 1 {
			continue
		}
		for last := range uint64(8) {
			for epoch := range uint32(6) {
				want := uint64(0)
				for lsn := uint64(1); lsn <= last; lsn++ {
					if epochs.At(l, lsn) <= epoch {
						want = lsn
					}
				}
				wantEnd(t, "small", l, last, epoch, want)
			}
		}
	}
}

func TestCut(t *testing.T) {
	three := list(start(2, 4), start(5, 10), start(9, 20))
	for _, x := range []struct {
		name string
		t    []api.Start
		lsn  uint64
		want []api.Start
	}{
		{"an empty table at 0", nil, 0, nil},
		{"an empty table at the greatest number", nil, greatestLsn, nil},
		{"at 0", three, 0, nil},
		{"ahead of the first start", three, 3, nil},
		{"at the first start", three, 4, three[:1]},
		{"behind the first start", three, 5, three[:1]},
		{"ahead of the second start", three, 9, three[:1]},
		{"at the second start", three, 10, three[:2]},
		{"behind the second start", three, 11, three[:2]},
		{"ahead of the last start", three, 19, three[:2]},
		{"at the last start", three, 20, three},
		{"behind the last start", three, 21, three},
		{"behind 32 bits", three, 1 << 32, three},
		{"at the greatest number", three, greatestLsn, three},
		{"ahead of a start at the greatest number", list(start(1, 1), start(2, greatestLsn)), greatestLsn - 1, list(start(1, 1))},
	} {
		wantCut(t, x.name, x.t, x.lsn, x.want)
	}
}

func TestAdd(t *testing.T) {
	two := list(start(2, 4), start(5, 10))
	for _, x := range []struct {
		name string
		t    []api.Start
		s    api.Start
	}{
		{"to nothing", nil, start(1, 1)},
		{"to nothing, the greatest", nil, start(greatestEpoch, greatestLsn)},
		{"to one", two[:1], start(3, 5)},
		{"next epoch, next entry", two, start(6, 11)},
		{"next epoch, a later entry", two, start(6, 50)},
		{"a later epoch, next entry", two, start(50, 11)},
		{"the greatest", two, start(greatestEpoch, greatestLsn)},
	} {
		wantAdded(t, x.name, x.t, x.s)
	}
	for _, x := range []struct {
		name string
		t    []api.Start
		s    api.Start
	}{
		{"epoch 0 to nothing", nil, start(0, 1)},
		{"Lsn 0 to nothing", nil, start(1, 0)},
		{"the zero start to nothing", nil, start(0, 0)},
		{"the zero start", two, start(0, 0)},
		{"epoch 0", two, start(0, 11)},
		{"Lsn 0", two, start(6, 0)},
		{"the same start", two, start(5, 10)},
		{"the same epoch", two, start(5, 11)},
		{"the same Lsn", two, start(6, 10)},
		{"a lower epoch", two, start(4, 11)},
		{"a lower Lsn", two, start(6, 9)},
		{"the first epoch", two, start(2, 11)},
		{"the first Lsn", two, start(6, 4)},
		{"one that would be first", two, start(1, 1)},
		{"one that would be between", two, start(3, 7)},
		{"behind the greatest: the same", list(start(greatestEpoch, greatestLsn)), start(greatestEpoch, greatestLsn)},
		{"behind the greatest: 1", list(start(greatestEpoch, greatestLsn)), start(1, 1)},
		{"behind the greatest: 0", list(start(greatestEpoch, greatestLsn)), start(0, 0)},
	} {
		wantNotAdded(t, x.name, x.t, x.s)
	}
}

func TestAddOneByOne(t *testing.T) {
	for _, x := range ordinary() {
		var l []api.Start
		for _, s := range x.t {
			var err api.Errno
			if l, err = epochs.Add(l, s); err != api.OK {
				t.Errorf("%s: Add of %v: %d", x.name, s, err)
			}
		}
		if !slices.Equal(l, x.t) {
			t.Errorf("%s: %v, want %v", x.name, l, x.t)
		}
	}
}

func TestAnyLists(t *testing.T) {
	r := source()
	tables, others := 0, 0
	for range 5000 {
		l := anyList(r)
		wantAsSaid(t, "any", l)
		if !isTable(l) {
			others++
		} else if len(l) > 2 {
			tables++
		}
	}
	if tables < 500 || others < 500 {
		t.Errorf("%d tables and %d other lists: too few to tell", tables, others)
	}
}

func TestLongTable(t *testing.T) {
	l := make([]api.Start, 100000)
	for i := range l {
		l[i] = start(uint32(i+1), uint64(2*i+1))
	}
	wantTable(t, "long", l)
	wantAt(t, "long", l, 100002, 50001)
	wantEnd(t, "long", l, 300000, 50001, 100002)
	wantEnd(t, "long", l, 300000, 100000, 300000)
	wantFork(t, "long", l, 300000, l[:99999], 300000, 199998)
	wantCut(t, "long", l, 100002, l[:50001])
	l[99999].Epoch = 99999
	if err := epochs.Check(l); err != api.ErrTable {
		t.Errorf("Check of a long list with a fault at its end: %d, want ErrTable", err)
	}
}
