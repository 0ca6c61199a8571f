package plan

import (
	"strconv"
	"strings"

	"drayage/api"
)

// mostWords is how many words a line can have ahead of its `back`: `hold N NAME tries N wait N`.
const mostWords = 7

// tailWords is how many of them stand behind the work: `tries N wait N`.
const tailWords = 4

// lineOf returns the line of a step, with its line feed.
func lineOf(s api.Step) string {
	p, _ := partsOf(s.Work.What)
	words := []string{p.word}
	if p.number {
		words = append(words, strconv.Itoa(s.Work.N))
	}
	if p.name {
		words = append(words, string(s.Work.Name))
	}
	words = append(words, "tries", strconv.Itoa(s.Tries), "wait", strconv.Itoa(s.Wait))
	if s.Back {
		words = append(words, "back")
	}
	return strings.Join(words, " ") + "\n"
}

// parseStep returns the step whose line, without its line feed, this is.
func parseStep(line string) (api.Step, bool) {
	line, back := strings.CutSuffix(line, " back")
	// One word more than there can be tells that there are too many, however many there are.
	words := strings.SplitN(line, " ", mostWords+1)
	at := len(words) - tailWords
	if at < 1 {
		return api.Step{}, false
	}
	work, ok := parseWork(words[:at])
	if !ok {
		return api.Step{}, false
	}
	tries, wait, ok := parseTail(words[at:])
	if !ok {
		return api.Step{}, false
	}
	return api.Step{Work: work, Tries: tries, Wait: wait, Back: back}, true
}

// parseTail returns the two numbers of the words behind a work.
func parseTail(words []string) (int, int, bool) {
	if words[0] != "tries" || words[2] != "wait" {
		return 0, 0, false
	}
	tries, triesFit := parseNumber(words[1], api.MaxTry)
	wait, waitFits := parseNumber(words[3], api.MaxWait)
	return tries, wait, triesFit && waitFits
}

// parseWork returns the work that these words, at least one, are.
func parseWork(words []string) (api.Work, bool) {
	what, ok := parseWhat(words[0])
	p, _ := partsOf(what)
	if !ok || len(words) != p.words() {
		return api.Work{}, false
	}
	w := api.Work{What: what}
	if p.number {
		w.N, ok = parseNumber(words[1], api.MaxCount)
	}
	if ok && p.name {
		w.Name, ok = parseName(words[len(words)-1])
	}
	return w, ok
}

// words returns how many words a work with these parts has.
func (p parts) words() int {
	n := 1
	if p.number {
		n++
	}
	if p.name {
		n++
	}
	return n
}

// parseWhat returns the kind of work that has this word.
func parseWhat(word string) (int, bool) {
	switch word {
	case "hold":
		return api.WorkHold, true
	case "ship":
		return api.WorkShip, true
	case "authorise":
		return api.WorkAuthorise, true
	case "capture":
		return api.WorkCapture, true
	case "book":
		return api.WorkBook, true
	case "notice":
		return api.WorkNotice, true
	}
	return 0, false
}

// parseNumber returns the number from 1 to most that a word is.
func parseNumber(word string, most int) (int, bool) {
	n := 0
	for _, r := range word {
		if r < '0' || r > '9' {
			return 0, false
		}
		n = 10*n + int(r-'0')
		// Still 0, it began with a 0, which no number from 1 on does. And it only grows: one of very many digits ends here.
		if !within(n, most) {
			return 0, false
		}
	}
	return n, n > 0
}

func parseName(word string) ([]byte, bool) {
	if !isName(word) {
		return nil, false
	}
	return []byte(word), true
}
