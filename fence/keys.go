package fence

import (
	"cmp"
	"slices"

	"drayage/api"
)

// key is what identifies a step for a participant.
type key struct {
	order uint32
	step  int
	undo  bool
}

func keyOf(k api.Kept) key { return key{k.Order, k.Step, k.Undo} }

func compareKeys(a, b key) int {
	return cmp.Or(
		cmp.Compare(a.order, b.order),
		cmp.Compare(a.step, b.step),
		cmp.Compare(flag(a.undo), flag(b.undo)),
	)
}

// search returns the place of a key in the list of a valid fence, or the place at which it would be inserted, and whether it is there.
func search(l []api.Kept, wanted key) (int, bool) {
	return slices.BinarySearchFunc(l, wanted, compareToKey)
}

func compareToKey(k api.Kept, wanted key) int { return compareKeys(keyOf(k), wanted) }
