package epochs_test

import (
	"slices"
	"testing"

	"drayage/api"
	"drayage/epochs"
)

// roomy returns a slice with the starts of l, and with others in its spare capacity.
func roomy(l []api.Start) []api.Start {
	room := make([]api.Start, len(l)+4)
	copy(room, l)
	for i := len(l); i < len(room); i++ {
		room[i] = start(77, 777)
	}
	return room[:len(l)]
}

// whole returns a copy of l with its spare capacity.
func whole(l []api.Start) []api.Start { return slices.Clone(l[:cap(l)]) }

func spoil(l []api.Start) {
	l = l[:cap(l)]
	for i := range l {
		l[i] = start(^l[i].Epoch, ^l[i].Lsn)
	}
}

func TestArgumentsStayAsTheyAre(t *testing.T) {
	for _, x := range append(ordinary(), noTables()...) {
		a, b := roomy(x.t), roomy(x.t)
		before := whole(a)
		epochs.Check(a)
		for _, lsn := range edges(x.t) {
			epochs.At(a, lsn)
			epochs.Cut(a, lsn)
			epochs.Fork(a, lsn, b, lsn)
			for _, epoch := range epochEdges(x.t) {
				epochs.End(a, lsn, epoch)
				epochs.Add(a, start(epoch, lsn))
			}
		}
		if !slices.Equal(whole(a), before) || !slices.Equal(whole(b), before) {
			t.Errorf("%s: the arguments were changed: %v, %v, want %v", x.name, whole(a), whole(b), before)
		}
	}
}

func TestCutSharesNoMemory(t *testing.T) {
	for _, x := range ordinary() {
		for _, lsn := range edges(x.t) {
			l := roomy(x.t)
			before, want := whole(l), cutByTheWords(x.t, lsn)
			one, two := epochs.Cut(l, lsn), epochs.Cut(l, lsn)
			spoil(one)
			if !slices.Equal(whole(l), before) || !slices.Equal(two, want) {
				t.Errorf("%s: a result shares memory with the argument or with another: %v, %v", x.name, whole(l), two)
			}
			spoil(l)
			if !slices.Equal(two, want) {
				t.Errorf("%s: a result shares memory with the argument: %v", x.name, two)
			}
		}
	}
}

func TestAddSharesNoMemory(t *testing.T) {
	for _, x := range ordinary() {
		s := start(greatestEpoch, greatestLsn)
		if !isTable(append(slices.Clone(x.t), s)) {
			continue
		}
		l := roomy(x.t)
		before, want := whole(l), append(slices.Clone(x.t), s)
		one, _ := epochs.Add(l, s)
		two, _ := epochs.Add(l, s)
		spoil(one)
		if !slices.Equal(whole(l), before) || !slices.Equal(two, want) {
			t.Errorf("%s: a result shares memory with the argument or with another: %v, %v", x.name, whole(l), two)
		}
		spoil(l)
		if !slices.Equal(two, want) {
			t.Errorf("%s: a result shares memory with the argument: %v", x.name, two)
		}
	}
}

// Two tables that are made from one by Add do not write over each other, though there is room behind the first.
func TestAddTwiceToOneTable(t *testing.T) {
	l := list(start(1, 1))
	for range 20 {
		next := l[len(l)-1]
		one, errOne := epochs.Add(l, start(next.Epoch+1, next.Lsn+1))
		two, errTwo := epochs.Add(l, start(next.Epoch+2, next.Lsn+2))
		if errOne != api.OK || errTwo != api.OK {
			t.Fatalf("Add: %d, %d", errOne, errTwo)
		}
		if one[len(l)] != start(next.Epoch+1, next.Lsn+1) || two[len(l)] != start(next.Epoch+2, next.Lsn+2) {
			t.Errorf("%v and %v share memory", one, two)
		}
		l = one
	}
}
