package epochs_test

import (
	"testing"

	"drayage/api"
)

func TestFork(t *testing.T) {
	a := list(start(1, 1), start(3, 5))
	b := list(start(1, 1), start(2, 4))
	for _, x := range []struct {
		name  string
		a     []api.Start
		lastA uint64
		b     []api.Start
		lastB uint64
		want  uint64
	}{
		{"the chapter's", a, 9, b, 6, 3},
		{"a ends ahead of the place", a, 2, b, 6, 2},
		{"b ends ahead of the place", a, 9, b, 1, 1},
		{"both end at the place", a, 3, b, 3, 3},
		{"a has no entries", a, 0, b, 6, 0},
		{"b has no entries", a, 9, b, 0, 0},
		{"none has entries", a, 0, b, 0, 0},
		{"the greatest last entries", a, greatestLsn, b, greatestLsn, 3},

		{"two empty tables", nil, 9, list(), 6, 6},
		{"two empty tables and the greatest last entries", nil, greatestLsn, nil, greatestLsn, greatestLsn},
		{"an empty table, and one that begins with entry 1", nil, 9, a, 9, 0},
		{"an empty table, and one that begins later", nil, 9, list(start(2, 5)), 9, 4},
		{"an empty table, and one that begins behind its last entry", nil, 9, list(start(2, 5)), 3, 3},
	} {
		wantFork(t, x.name, x.a, x.lastA, x.b, x.lastB, x.want)
	}
}

func TestForkOfEqualTables(t *testing.T) {
	for _, x := range ordinary() {
		for _, lastA := range edges(x.t) {
			for _, lastB := range edges(x.t) {
				wantFork(t, x.name, x.t, lastA, x.t, lastB, min(lastA, lastB))
			}
		}
	}
}

// A table that goes on differs from its beginning where the next epoch begins, and not ahead of it.
func TestForkOfABeginning(t *testing.T) {
	for _, x := range ordinary() {
		for n := range len(x.t) {
			place := x.t[n].Lsn - 1
			for _, lastA := range edges(x.t) {
				for _, lastB := range edges(x.t) {
					wantFork(t, x.name, x.t, lastA, x.t[:n], lastB, min(lastA, lastB, place))
				}
			}
		}
	}
}

func TestForkWhereTablesDiverge(t *testing.T) {
	base := list(start(2, 4), start(5, 10), start(9, 20))
	for _, x := range []struct {
		name string
		b    []api.Start
		want uint64
	}{
		{"a lower epoch first", list(start(1, 4), start(5, 10), start(9, 20)), 3},
		{"a greater epoch first", list(start(3, 4), start(5, 10), start(9, 20)), 3},
		{"an earlier Lsn first", list(start(2, 3), start(5, 10), start(9, 20)), 2},
		{"a later Lsn first", list(start(2, 5), start(5, 10), start(9, 20)), 3},
		{"a lower epoch in the middle", list(start(2, 4), start(4, 10), start(9, 20)), 9},
		{"a greater epoch in the middle", list(start(2, 4), start(6, 10), start(9, 20)), 9},
		{"an earlier Lsn in the middle", list(start(2, 4), start(5, 9), start(9, 20)), 8},
		{"a later Lsn in the middle", list(start(2, 4), start(5, 11), start(9, 20)), 9},
		{"a lower epoch last", list(start(2, 4), start(5, 10), start(8, 20)), 19},
		{"a greater epoch last", list(start(2, 4), start(5, 10), start(10, 20)), 19},
		{"an earlier Lsn last", list(start(2, 4), start(5, 10), start(9, 19)), 18},
		{"a later Lsn last", list(start(2, 4), start(5, 10), start(9, 21)), 19},

		{"a start more ahead of all", list(start(1, 2), start(2, 4), start(5, 10), start(9, 20)), 1},
		{"a start more in the middle", list(start(2, 4), start(3, 7), start(5, 10), start(9, 20)), 6},
		{"a start more behind all", list(start(2, 4), start(5, 10), start(9, 20), start(10, 30)), 29},
		{"the first start is missing", list(start(5, 10), start(9, 20)), 3},
		{"the middle start is missing", list(start(2, 4), start(9, 20)), 9},
		{"the last start is missing", list(start(2, 4), start(5, 10)), 19},
		{"all else is different too", list(start(2, 4), start(6, 7), start(7, 8), start(8, 9)), 6},
		{"another entry 1", list(start(1, 1)), 0},
		{"the next start is at the greatest number", list(start(2, 4), start(5, 10), start(9, 20), start(10, greatestLsn)), greatestLsn - 1},
	} {
		wantFork(t, x.name, base, greatestLsn, x.b, greatestLsn, x.want)
		lasts := append(edges(base), edges(x.b)...)
		lasts = append(lasts, x.want, x.want+1)
		for _, lastA := range lasts {
			for _, lastB := range lasts {
				wantFork(t, x.name, base, lastA, x.b, lastB, min(lastA, lastB, x.want))
			}
		}
	}
}

// If one of two lists is no table, it does not matter what the other one is, nor where they diverge.
func TestForkWithAListThatIsNoTable(t *testing.T) {
	for _, x := range noTables() {
		for _, y := range append(ordinary(), noTables()...) {
			for _, last := range []uint64{0, 1, 30, greatestLsn} {
				wantFork(t, x.name+" with "+y.name, x.t, last, y.t, last, 0)
			}
		}
		for n := range len(x.t) {
			wantFork(t, x.name+" with its beginning", x.t, 30, x.t[:n], 30, 0)
		}
	}
}
