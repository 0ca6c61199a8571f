package fence

import (
	"bytes"
	"slices"

	"drayage/api"
	"drayage/field"
	"drayage/note"
)

func isValid(k api.Kept) bool {
	return k.Order >= 1 && k.Step >= 0 && k.Step < api.MaxSteps &&
		len(k.Asked) <= api.MaxNote && len(k.Reply) <= api.MaxNote && isVerdict(k.Code)
}

// isVerdict does not take Unsure: a participant knows what it did.
func isVerdict(code int) bool { return code == api.Done || code == api.Refused }

func isRequest(n api.Note) bool {
	return n.Kind == api.NoteStep && note.Check(n) == api.OK && n.Epoch != 0 && n.Order != 0
}

// actOnNew returns what is to be done with a request whose key is not in f, by what is there of the opposite step.
func actOnNew(f api.Fence, n api.Note) int {
	opposite, found := Find(f, n.Order, n.Step, !n.Undo)
	if !n.Undo && found {
		return api.ActRefuse
	}
	if n.Undo && (!found || opposite.Code == api.Refused) {
		return api.ActEmpty
	}
	return api.ActDo
}

// mayAnswer tells whether code can be the verdict on a request with which act is to be done.
func mayAnswer(act, code int) bool {
	switch act {
	case api.ActRefuse:
		return code == api.Refused
	case api.ActEmpty:
		return code == api.Done
	}
	return isVerdict(code)
}

// clone copies the texts too: what is handed in and what is handed out may be written over later.
func clone(k api.Kept) api.Kept {
	k.Asked, k.Reply = bytes.Clone(k.Asked), bytes.Clone(k.Reply)
	return k
}

func cloneAll(l []api.Kept) []api.Kept {
	l = slices.Clone(l)
	for i := range l {
		l[i] = clone(l[i])
	}
	return l
}

func write(w *field.Writer, k api.Kept) {
	w.U32(k.Order).U8(uint8(k.Step)).U8(flag(k.Undo)).U8(uint8(k.Code)).Text(k.Asked).Text(k.Reply)
}

// read takes an Undo byte other than 1 for 0: Get finds the difference when it encodes the fence again.
func read(r *field.Reader) api.Kept {
	var k api.Kept
	k.Order = r.U32()
	k.Step = int(r.U8())
	k.Undo = r.U8() == 1
	k.Code = int(r.U8())
	k.Asked = r.Text()
	k.Reply = r.Text()
	return k
}

func flag(set bool) uint8 {
	if set {
		return 1
	}
	return 0
}
