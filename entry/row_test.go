package entry_test

import (
	"bytes"
	"math"
	"math/rand"
	"slices"
	"testing"

	"drayage/api"
	"drayage/entry"
)

func mode(lsn uint64, epoch uint32) api.Entry {
	return api.Entry{Kind: api.EntryMode, Lsn: lsn, Epoch: epoch, Code: api.ModeSync}
}

func begin(lsn uint64, epoch uint32) api.Entry {
	return api.Entry{Kind: api.EntryEpoch, Lsn: lsn, Epoch: epoch}
}

func row(l ...api.Entry) []api.Entry { return l }

func wantRow(t *testing.T, name string, l []api.Entry, want int) {
	t.Helper()
	wantErr := api.ErrRow
	if want == len(l) {
		wantErr = api.OK
	}
	if n, err := entry.Row(l); n != want || err != wantErr {
		t.Errorf("%s: %d, %d, want %d, %d", name, n, err, want, wantErr)
	}
}

const (
	greatestLsn   = math.MaxUint64
	greatestEpoch = math.MaxUint32
)

func TestRow(t *testing.T) {
	for _, x := range []struct {
		name string
		l    []api.Entry
		want int
	}{
		{"nil", nil, 0},
		{"empty", row(), 0},
		{"one", row(mode(1, 1)), 1},
		{"one that begins an epoch", row(begin(1, 1)), 1},
		{"one in the middle of a journal", row(mode(70000, 12)), 1},
		{"one with the greatest numbers", row(mode(greatestLsn, greatestEpoch)), 1},
		{"two", row(mode(1, 1), mode(2, 1)), 2},
		{"the greatest Lsns", row(mode(greatestLsn-2, 1), mode(greatestLsn-1, 1), mode(greatestLsn, 1)), 3},

		{"one that is not valid", row(api.Entry{}), 0},
		{"one with Lsn 0", row(mode(0, 1)), 0},
		{"one with epoch 0", row(mode(1, 0)), 0},
		{"the first is not valid", row(mode(0, 1), mode(1, 1), mode(2, 1)), 0},
		{"the second is not valid", row(mode(1, 1), api.Entry{Kind: api.EntryMode, Lsn: 2, Epoch: 1}, mode(3, 1)), 1},
		{"the last is not valid", row(mode(1, 1), mode(2, 1), api.Entry{Kind: 8, Lsn: 3, Epoch: 1}), 2},
		{"one that begins an epoch is not valid", row(mode(1, 1), api.Entry{Kind: api.EntryEpoch, Lsn: 2, Epoch: 2, Code: 1}), 1},

		{"the chapter's Lsns", row(mode(3, 1), mode(4, 1), mode(6, 1)), 2},
		{"an Lsn left out, and then a row", row(mode(3, 1), mode(5, 1), mode(6, 1), mode(7, 1)), 1},
		{"the same Lsn", row(mode(3, 1), mode(3, 1)), 1},
		{"the same Lsn, beginning an epoch", row(mode(3, 1), begin(3, 2)), 1},
		{"a falling Lsn", row(mode(3, 1), mode(2, 1)), 1},
		{"an Lsn that begins again", row(mode(3, 1), begin(1, 2)), 1},
		{"an Lsn that is greater by 2^32 + 1", row(mode(3, 1), mode(3+1<<32+1, 1)), 1},
		{"behind the greatest Lsn: 0", row(mode(greatestLsn, 1), mode(0, 1)), 1},
		{"behind the greatest Lsn: 0, beginning an epoch", row(mode(greatestLsn, 1), begin(0, 2)), 1},
		{"behind the greatest Lsn: 1", row(mode(greatestLsn, 1), mode(1, 1)), 1},
		{"behind the greatest Lsn: the same", row(mode(greatestLsn, 1), mode(greatestLsn, 1)), 1},
		{"the greatest Lsn behind 1", row(mode(1, 1), mode(greatestLsn, 1)), 1},
		{"a row that begins with 0, after the greatest Lsn", row(mode(greatestLsn-1, 1), mode(greatestLsn, 1), mode(0, 1), mode(1, 1)), 2},

		{"an epoch that stays", row(mode(5, 2), mode(6, 2), mode(7, 2)), 3},
		{"an epoch that stays, with an EntryEpoch", row(mode(5, 2), begin(6, 2), mode(7, 2)), 3},
		{"an epoch that rises by one", row(mode(5, 2), begin(6, 3), mode(7, 3)), 3},
		{"an epoch that rises by two", row(mode(5, 2), begin(6, 4), mode(7, 4)), 3},
		{"an epoch that rises to the greatest", row(mode(5, 1), begin(6, greatestEpoch), mode(7, greatestEpoch)), 3},
		{"epochs that rise twice", row(begin(5, 2), begin(6, 3), begin(7, 9), mode(8, 9)), 4},
		{"an epoch that rises without an EntryEpoch", row(mode(5, 2), mode(6, 3)), 1},
		{"an epoch that rises after its EntryEpoch", row(begin(5, 2), mode(6, 3)), 1},
		{"an epoch that rises before its EntryEpoch", row(mode(5, 2), mode(6, 3), begin(7, 3)), 1},
		{"an epoch that falls", row(mode(5, 2), mode(6, 1)), 1},
		{"an epoch that falls, with an EntryEpoch", row(mode(5, 2), begin(6, 1)), 1},
		{"an epoch that falls from the greatest to 1", row(mode(5, greatestEpoch), begin(6, 1)), 1},
		{"an epoch that falls to 0", row(mode(5, greatestEpoch), begin(6, 0)), 1},
		{"back in the old epoch", row(mode(5, 2), begin(6, 3), mode(7, 2)), 2},
		{"back in the old epoch, with an EntryEpoch", row(mode(5, 2), begin(6, 3), begin(7, 2), mode(8, 3)), 2},
		{"both wrong", row(mode(5, 2), mode(9, 1)), 1},
	} {
		wantRow(t, x.name, x.l, x.want)
		for n := range x.want {
			wantRow(t, "a prefix of "+x.name, x.l[:n], n)
		}
	}
}

// Only an EntryEpoch may begin an epoch; all kinds may go on with one.
func TestRowOfEveryKind(t *testing.T) {
	for kind := 1; kind <= 7; kind++ {
		first := ofKind(kind)
		wantRow(t, "one", row(first), 1)
		for other := 1; other <= 7; other++ {
			next := ofKind(other)
			next.Lsn++
			wantRow(t, "the same epoch", row(first, next), 2)
			next.Epoch++
			want := 1
			if other == api.EntryEpoch {
				want = 2
			}
			wantRow(t, "a greater epoch", row(first, next), want)
			next.Epoch -= 2
			wantRow(t, "a smaller epoch", row(first, next), 1)
		}
	}
}

func TestRowEndsAtTheFirstFault(t *testing.T) {
	for n := range 20 {
		var l []api.Entry
		for i := range 20 {
			l = append(l, mode(uint64(i+1), 3))
		}
		wantRow(t, "no fault", l, 20)
		l[n].Code = 3
		wantRow(t, "not valid", l, n)
		l[n] = begin(uint64(n+1), 2) // for the first one it's a smaller epoch than that of the next
		wantRow(t, "an epoch that falls", l, max(n, 1))
		l[n] = mode(uint64(n+30), 3)
		wantRow(t, "another Lsn", l, max(n, 1))
	}
}

// rowByTheWords says how long the longest valid prefix is, asking of every prefix whether it is valid.
func rowByTheWords(l []api.Entry) int {
	good := func(l []api.Entry) bool {
		for i, e := range l {
			if !valid(e) {
				return false
			}
			if i == 0 {
				continue
			}
			before := l[i-1]
			if before.Lsn == math.MaxUint64 || e.Lsn-1 != before.Lsn || e.Epoch < before.Epoch {
				return false
			}
			if e.Epoch > before.Epoch && e.Kind != api.EntryEpoch {
				return false
			}
		}
		return true
	}
	for n := len(l); n > 0; n-- {
		if good(l[:n]) {
			return n
		}
	}
	return 0
}

// anyRow returns entries most of which follow one another.
func anyRow(r *rand.Rand) []api.Entry {
	lsn, epoch := uint64(r.Intn(5)+1), uint32(r.Intn(3)+1)
	if r.Intn(4) == 0 {
		lsn = math.MaxUint64 - uint64(r.Intn(6))
	}
	var l []api.Entry
	for range r.Intn(12) {
		e := anyEntry(r)
		if r.Intn(5) == 0 {
			e = begin(0, 0)
			epoch += uint32(r.Intn(3))
		}
		if r.Intn(30) == 0 {
			epoch += uint32(r.Intn(3) - 1)
		}
		if r.Intn(30) == 0 {
			lsn += uint64(r.Intn(3) - 1)
		}
		if e.Kind == api.EntryMark {
			e.Mark = lsn - uint64(min(r.Intn(20), 1))
		}
		e.Lsn, e.Epoch = lsn, epoch
		lsn++
		l = append(l, e)
	}
	return l
}

func TestAnyRows(t *testing.T) {
	r := source()
	whole := 0
	for range 20000 {
		l := anyRow(r)
		want := rowByTheWords(l)
		wantRow(t, "any", l, want)
		wantRow(t, "the prefix of any", l[:want], want)
		if want == len(l) && want > 3 {
			whole++
		}
	}
	if whole < 500 {
		t.Errorf("only %d whole rows: too few to tell", whole)
	}
}

func TestRowKeepsItsArgument(t *testing.T) {
	e := ofKind(api.EntryOrder)
	next := ofKind(api.EntryResult)
	next.Lsn++
	l := row(e, next, api.Entry{}, e)
	before := slices.Clone(l)
	key, data := bytes.Clone(e.Key), bytes.Clone(e.Data)
	wantRow(t, "two of four", l, 2)
	wantRow(t, "again", l, 2)
	if !slices.EqualFunc(l, before, same) || !bytes.Equal(e.Key, key) || !bytes.Equal(e.Data, data) {
		t.Error("the argument was changed", l)
	}
}

func TestLongRow(t *testing.T) {
	l := make([]api.Entry, 100000)
	for i := range l {
		l[i] = mode(uint64(i+1), 1)
	}
	wantRow(t, "long", l, len(l))
	l[len(l)-1].Epoch = 2
	wantRow(t, "long, with a fault at its end", l, len(l)-1)
}
