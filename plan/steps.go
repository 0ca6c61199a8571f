package plan

import "drayage/api"

// parts are what the text of a work consists of: its word, and whether a number and a name stand behind it.
type parts struct {
	word   string
	number bool
	name   bool
}

// partsOf returns the parts of the works of a kind, and whether there is such a kind.
func partsOf(what int) (parts, bool) {
	switch what {
	case api.WorkHold:
		return parts{word: "hold", number: true, name: true}, true
	case api.WorkShip:
		return parts{word: "ship"}, true
	case api.WorkAuthorise:
		return parts{word: "authorise", number: true, name: true}, true
	case api.WorkCapture:
		return parts{word: "capture"}, true
	case api.WorkBook:
		return parts{word: "book", number: true}, true
	case api.WorkNotice:
		return parts{word: "notice", name: true}, true
	}
	return parts{}, false
}

func isStep(s api.Step) bool {
	return isWork(s.Work) && within(s.Tries, api.MaxTry) && within(s.Wait, api.MaxWait)
}

func isWork(w api.Work) bool {
	p, known := partsOf(w.What)
	return known && p.fitNumber(w.N) && p.fitName(w.Name)
}

func (p parts) fitNumber(n int) bool {
	if !p.number {
		return n == 0
	}
	return within(n, api.MaxCount)
}

func (p parts) fitName(name []byte) bool {
	if !p.name {
		return len(name) == 0
	}
	return isName(name)
}

// within tells whether n is from 1 to most.
func within(n, most int) bool { return n >= 1 && n <= most }

// isName takes a word of a text too, so that one that is no name, however long, is not copied.
func isName[T string | []byte](name T) bool {
	if !within(len(name), api.MaxKey) {
		return false
	}
	for i := range len(name) {
		if !isNameByte(name[i]) {
			return false
		}
	}
	return true
}

func isNameByte(c byte) bool {
	return c >= 'a' && c <= 'z' || c >= '0' && c <= '9' || c == '-'
}
