package plan_test

import (
	"fmt"
	"slices"
	"strconv"
	"strings"
	"testing"
	"unicode"

	"drayage/api"
	"drayage/plan"
)

func TestMissingWords(t *testing.T) {
	for _, x := range ordinary() {
		words := strings.Split(x.line, " ")
		for i, word := range words {
			// Without its back it is the line of another step.
			if word != "back" {
				wantWrongLine(t, "without "+word, strings.Join(slices.Delete(slices.Clone(words), i, i+1), " "))
			}
			wantWrongLine(t, "an empty word for "+word, strings.Join(slices.Replace(slices.Clone(words), i, i+1, ""), " "))
		}
		for n := range len(words) {
			if line := strings.Join(words[:n], " "); line+" back" != x.line {
				wantWrongLine(t, "the first words", line)
			}
		}
		for n := 1; n <= len(words); n++ {
			wantWrongLine(t, "the last words", strings.Join(words[n:], " "))
		}
	}
}

func TestDoubledWords(t *testing.T) {
	for _, x := range ordinary() {
		words := strings.Split(x.line, " ")
		for i, word := range words {
			wantWrongLine(t, "twice "+word, strings.Join(slices.Insert(slices.Clone(words), i, word), " "))
			if word != "back" {
				wantWrongLine(t, "again "+word, x.line+" "+word)
			}
			wantWrongLine(t, "first "+word, word+" "+x.line)
			// Any number of words, and any two words, are too many.
			for _, n := range []int{2, 3, 7, 8, 9, 300} {
				wantWrongLine(t, "many times "+word, strings.Join(slices.Insert(slices.Clone(words), i, slices.Repeat([]string{word}, n)...), " "))
			}
		}
		wantWrongLine(t, "all again", x.line+" "+x.line)
	}
}

// keywords are the words of a line that are neither a number nor a name.
var keywords = []string{"hold", "ship", "authorise", "capture", "book", "notice", "tries", "wait", "back"}

// spellings returns words that look like this one.
func spellings(word string) []string {
	var l []string
	for i := range word {
		l = append(l, word[:i]+word[i+1:], word[:i]+"x"+word[i+1:], word[:i]+strings.ToUpper(word[i:i+1])+word[i+1:], word[:i]+word[i:i+1]+word[i:])
		for _, c := range []string{"x", "s", "-", "1", "\x00", "\xff", "\u00ad", "\u200b", "'", ".", ":", "="} {
			l = append(l, word[:i]+c+word[i:])
		}
		if i > 0 && word[i-1] != word[i] {
			l = append(l, word[:i-1]+word[i:i+1]+word[i-1:i]+word[i+1:])
		}
		l = append(l, word[:i+1])
	}
	for _, c := range []string{"x", "s", "-", "1", "\x00", "\xff", "\u00ad", "\u200b", ":", ";", "=", ",", "\r"} {
		l = append(l, word+c)
	}
	l = append(l, strings.ToUpper(word), strings.ToUpper(word[:1])+word[1:], word+word, `"`+word+`"`, "authorize", "hold2", "Tries", "try", "waits", "BACK", "order", "undo", "ſhip", "booK", "tıme", "waıt")
	return slices.DeleteFunc(l, func(s string) bool { return s == word })
}

func TestMisspeltWords(t *testing.T) {
	n := 0
	for _, x := range ordinary() {
		words := strings.Split(x.line, " ")
		for i, word := range words {
			if !slices.Contains(keywords, word) {
				continue
			}
			for _, other := range append(spellings(word), keywords...) {
				line := strings.Join(slices.Replace(slices.Clone(words), i, i+1, other), " ")
				// One of the same form in the first place is another work.
				if _, ok := read(line + "\n"); ok {
					n++
					wantAsRead(t, "another word", line+"\n")
					continue
				}
				wantWrongLine(t, "for "+word, line)
			}
		}
	}
	// Two lines each have a hold for an authorise, a ship for a capture, both the other way round, and a notice for a book; and each word stood for itself.
	if n != 2*5+3*12+6 {
		t.Errorf("%d lines were right", n)
	}
}

func TestCapitals(t *testing.T) {
	for _, x := range ordinary() {
		wantWrongLine(t, "capitals", strings.ToUpper(x.line))
		wantWrongLine(t, "a capital", strings.ToUpper(x.line[:1])+x.line[1:])
		words := strings.Split(x.line, " ")
		for i, word := range words {
			if other := strings.ToUpper(word); other != word {
				wantWrongLine(t, other, strings.Join(slices.Replace(slices.Clone(words), i, i+1, other), " "))
				other = word[:len(word)-1] + other[len(word)-1:]
				wantAsRead(t, other, strings.Join(slices.Replace(slices.Clone(words), i, i+1, other), " ")+"\n")
			}
		}
	}
}

// Each two words of a line in each other's places, and each word taken to each place.
func TestOtherOrders(t *testing.T) {
	for _, x := range ordinary() {
		words := strings.Split(x.line, " ")
		for i := range words {
			for j := range words {
				swapped := slices.Clone(words)
				swapped[i], swapped[j] = swapped[j], swapped[i]
				wantAsRead(t, "two words swapped", strings.Join(swapped, " ")+"\n")
				moved := slices.Insert(slices.Delete(slices.Clone(words), i, i+1), j, words[i])
				wantAsRead(t, "a word moved", strings.Join(moved, " ")+"\n")
			}
		}
		slices.Reverse(words)
		wantWrongLine(t, "backwards", strings.Join(words, " "))
	}
	for _, line := range []string{
		"hold a 2 tries 3 wait 5", "authorise ann 2 tries 3 wait 5", "2 hold a tries 3 wait 5", "2 book tries 3 wait 5", "hi notice tries 3 wait 5",
		"ship wait 5 tries 3", "ship wait 5 tries 3 back", "hold 2 a wait 5 tries 3 back", "ship back tries 3 wait 5", "ship tries 3 back wait 5", "back ship tries 3 wait 5",
		"tries 3 wait 5 ship", "tries 3 ship wait 5", "tries 3 wait 5 hold 2 a back", "back tries 3 wait 5 hold 2 a", "ship 3 tries 5 wait", "3 tries 5 wait ship",
	} {
		wantWrongLine(t, "another order", line)
	}
}

func TestWordsBehind(t *testing.T) {
	for _, x := range ordinary() {
		for _, word := range []string{"", "x", "1", "-", "back back", "backs", "bac", "Back", "no", "tries", "wait", "tries 1", "wait 1", "tries 1 wait 1", "hold", "ship", "a b c d e f g h", "\x00", "\xff", "# a remark"} {
			wantWrongLine(t, "a word behind", x.line+" "+word)
			wantWrongLine(t, "a word behind, ahead of back", x.line+" "+word+" back")
		}
		if strings.HasSuffix(x.line, " back") {
			wantWrongLine(t, "back twice", x.line+" back")
		} else {
			s := x.s
			s.Back = true
			wantRightLine(t, "back", x.line+" back", s)
		}
	}
	for _, line := range []string{
		"ship 1 tries 3 wait 5", "ship a tries 3 wait 5", "ship 1 a tries 3 wait 5", "capture 1 tries 3 wait 5", "capture a tries 3 wait 5",
		"book 1 a tries 3 wait 5", "book a tries 3 wait 5", "book 1 1 tries 3 wait 5", "notice 1 a tries 3 wait 5", "notice a a tries 3 wait 5", "notice tries 3 wait 5",
		"hold 1 tries 3 wait 5", "hold a tries 3 wait 5", "hold tries 3 wait 5", "hold 1 a b tries 3 wait 5", "hold 1 1 1 tries 3 wait 5", "book tries 3 wait 5",
		"authorise 1 tries 3 wait 5", "authorise a tries 3 wait 5", "authorise 1 a a tries 3 wait 5", "ship", "ship tries 3", "ship wait 5", "ship back", "tries 3 wait 5", "back",
		"ship tries wait 5", "ship tries 3 wait", "ship tries 3 wait back", "ship tries wait", "ship 3 5", "ship 3 5 back", "hold 2 a 3 5",
	} {
		wantWrongLine(t, "words of other kinds", line)
	}
}

// notBlanks are what may not stand where a blank stands.
var notBlanks = []string{"", "  ", "   ", "\t", " \t", "\t ", "\r", " \r", "\r ", "\x00", " \x00", "\x00 ", "\v", "\f", "\x1f", "\x7f", "\x85", "\xa0", "\xff", "\xc0\xa0", " \xff", "\xff ", "\xe2\x80", "\u00a0", "\u0085", "\u1680", "\u2003", "\u2028", "\u202f", "\u3000", "\u200b", "\ufeff", "\ufffd", "_", "-", ",", ", ", ".", "+", "|", "a", "0"}

func TestBlanks(t *testing.T) {
	for _, x := range ordinary() {
		for at := range len(x.line) {
			if x.line[at] != ' ' {
				continue
			}
			for _, other := range notBlanks {
				wantWrongLine(t, "for a blank", x.line[:at]+other+x.line[at+1:])
			}
			for _, other := range []string{"\n", "\r\n", " \n", "\n ", "\n\n"} {
				wantAsRead(t, "a line feed for a blank", x.line[:at]+other+x.line[at+1:]+"\n")
			}
		}
		for _, other := range append(notBlanks, " ") {
			if other == "" {
				continue
			}
			wantWrongLine(t, "ahead", other+x.line)
			if other != "0" && other != "a" && other != "-" {
				wantWrongLine(t, "behind", x.line+other)
			} else {
				wantAsRead(t, "behind", x.line+other+"\n")
			}
		}
		for c := range 256 {
			if c != ' ' {
				wantWrongLine(t, "each byte for all blanks", strings.ReplaceAll(x.line, " ", string([]byte{byte(c)})))
			}
		}
		wantWrongLine(t, "no blanks", strings.ReplaceAll(x.line, " ", ""))
		wantWrongLine(t, "twice as many", strings.ReplaceAll(x.line, " ", "  "))
		wantWrongLine(t, "blanks between letters", strings.Join(strings.Split(x.line, ""), " "))
	}
}

// withNumbers are lines with one number to be written in, with the greatest number there.
var withNumbers = []struct {
	ahead, behind string
	most          int
	step          func(n int) api.Step
}{
	{"hold ", " a tries 3 wait 5", 1000000, func(n int) api.Step { return forward(work(1, n, "a"), 3, 5) }},
	{"authorise ", " a tries 3 wait 5 back", 1000000, func(n int) api.Step { return back(work(3, n, "a"), 3, 5) }},
	{"book ", " tries 3 wait 5", 1000000, func(n int) api.Step { return forward(work(5, n, ""), 3, 5) }},
	{"hold 2 a tries ", " wait 5 back", 255, func(n int) api.Step { return back(work(1, 2, "a"), n, 5) }},
	{"ship tries ", " wait 5", 255, func(n int) api.Step { return forward(work(2, 0, ""), n, 5) }},
	{"hold 2 a tries 3 wait ", " back", 10000, func(n int) api.Step { return back(work(1, 2, "a"), 3, n) }},
	{"notice a tries 3 wait ", "", 10000, func(n int) api.Step { return forward(work(6, 0, "a"), 3, n) }},
}

func TestRightNumbers(t *testing.T) {
	for _, x := range withNumbers {
		for _, n := range []int{1, 2, 3, 4, 5, 6, 7, 8, 9, 10, 11, 99, 100, 101, 199, 200, 254, 255, x.most / 10, x.most - 1, x.most} {
			wantRightLine(t, "a number", x.ahead+strconv.Itoa(n)+x.behind, x.step(n))
		}
	}
}

func TestNumbersOutOfBounds(t *testing.T) {
	for _, x := range withNumbers {
		for _, n := range []int{0, x.most + 1, x.most + 2, 10 * x.most, 11 * x.most, 999999999} {
			wantWrongLine(t, "a number out of bounds", x.ahead+strconv.Itoa(n)+x.behind)
		}
		// Those that look like one of the right ones in their last bits.
		for _, digits := range []string{"257", "65537", "4294967296", "4294967297", "9223372036854775807", "9223372036854775808", "9223372036854775809", "18446744073709551615", "18446744073709551616", "18446744073709551617", "18446744073709551618", "340282366920938463463374607431768211457"} {
			if n, err := strconv.Atoi(digits); err != nil || n > x.most {
				wantWrongLine(t, "a number out of bounds", x.ahead+digits+x.behind)
			}
		}
	}
}

// Each number of tries and each wait, and some numbers of each size.
func TestManyNumbers(t *testing.T) {
	for _, x := range withNumbers {
		step := 1
		if x.most == 1000000 {
			step = 997
		}
		for n := 0; n <= x.most+1000; n += step {
			wantAsRead(t, "a number", fmt.Sprintf("%s%d%s\n", x.ahead, n, x.behind))
		}
	}
}

func TestOtherFormsOfNumbers(t *testing.T) {
	for _, x := range withNumbers {
		for _, digits := range []string{
			"", "+1", "-1", "+0", "-0", "--1", "- 1", "00", "01", "001", "0001", "02", "0255", strings.Repeat("0", 100), strings.Repeat("0", 1000) + "1",
			"1.", "1.0", ".1", "1,0", "1'0", "1_0", "_1", "1_", "0x1", "1e0", "1e1", "0b1", "0o1", "1h", "h1", "1a", "a1", "a", "one", "I", "½", "²", "1²",
			"1\x00", "\x001", "1\x80", "\x801", "1\xff", "\xff", "\xff1", "\ufffd", "1\ufffd", "\u200b1", "1\u200b", "\ufeff1", "1\u0301", "1\r", "1\t", "/", ":", "1/", "1:", "/1", ":1", "\xb1", "\xf0\x9d\x9f",
			"(1)", "*", "?", "%31", "~", "NaN", "Inf",
		} {
			wantWrongLine(t, "no number", x.ahead+digits+x.behind)
		}
	}
}

// What is a digit in other scripts is none here, alone or with one of ours.
func TestOtherDigits(t *testing.T) {
	n := 0
	for _, x := range unicode.Nd.R16 {
		for r := rune(x.Lo); r <= rune(x.Hi); r++ {
			n += wantNoDigit(t, r)
		}
	}
	for _, x := range unicode.Nd.R32 {
		for r := rune(x.Lo); r <= rune(x.Hi); r++ {
			n += wantNoDigit(t, r)
		}
	}
	// Runes whose last byte, or last two, are those of a digit.
	for _, r := range []rune{0x131, 0x138, 0x231, 0x1031, 0x10031, 0x10ff31, 0x230, 0x10030} {
		n += wantNoDigit(t, r)
	}
	if n < 500 {
		t.Errorf("there were %d digits", n)
	}
}

func wantNoDigit(t *testing.T, r rune) int {
	t.Helper()
	if r <= '9' {
		return 0
	}
	for _, x := range withNumbers {
		for _, digits := range []string{string(r), "1" + string(r), string(r) + "1"} {
			wantError(t, "another digit", x.ahead+digits+x.behind+"\n", 1, api.ErrLine)
		}
	}
	return 1
}

// A number of very many digits ends, and is too great.
func TestVeryManyDigits(t *testing.T) {
	for _, x := range withNumbers {
		for _, digits := range []string{strings.Repeat("9", 1000), strings.Repeat("1", 1<<20), "1" + strings.Repeat("0", 1<<20), strings.Repeat("0", 1<<20), strings.Repeat("0", 1<<20) + "1", "1" + strings.Repeat("0", 64), "1" + strings.Repeat("0", 63) + "1"} {
			wantError(t, "very many digits", x.ahead+digits+x.behind+"\n", 1, api.ErrLine)
		}
	}
}

func TestNamesInLines(t *testing.T) {
	for _, x := range []struct {
		ahead, behind string
		step          func(name string) api.Step
	}{
		{"hold 2 ", " tries 3 wait 5", func(name string) api.Step { return forward(work(1, 2, name), 3, 5) }},
		{"authorise 2 ", " tries 3 wait 5 back", func(name string) api.Step { return back(work(3, 2, name), 3, 5) }},
		{"notice ", " tries 3 wait 5", func(name string) api.Step { return forward(work(6, 0, name), 3, 5) }},
	} {
		for c := range 256 {
			for _, name := range []string{string([]byte{byte(c)}), string([]byte{'n', byte(c)}), string([]byte{byte(c), 'n'}), strings.Repeat("n", 31) + string([]byte{byte(c)})} {
				if isRight(c) {
					wantRightLine(t, "a name", x.ahead+name+x.behind, x.step(name))
				} else {
					wantWrongLine(t, "a name with another byte", x.ahead+name+x.behind)
				}
			}
		}
		for n := 1; n <= api.MaxKey; n++ {
			wantRightLine(t, "a name", x.ahead+strings.Repeat("n", n)+x.behind, x.step(strings.Repeat("n", n)))
		}
		for _, n := range []int{0, api.MaxKey + 1, 34, 64, 255, 256, 257, 256 + 32, 1 << 16, 1<<16 + 1, 1 << 20} {
			wantWrongLine(t, "a name of no byte, or of too many", x.ahead+strings.Repeat("n", n)+x.behind)
		}
		for _, name := range []string{"é", "ß", "ａ", "а", "nа", "n\u0301", strings.Repeat("é", 16), "\U0001d44e", "n\u00adn"} {
			wantWrongLine(t, "a name of other letters", x.ahead+name+x.behind)
		}
	}
}

// A line that ends with a line feed is one; what stands behind the last of them is none.
func TestLineFeeds(t *testing.T) {
	for _, x := range ordinary() {
		one := x.line + "\n"
		for _, y := range []struct {
			name, text string
			line       int
		}{
			{"no line feed", x.line, 1},
			{"no line feed at the second", one + x.line, 2},
			{"no line feed at the third", one + one + x.line, 3},
			{"an empty line ahead", "\n" + one, 1},
			{"two empty lines ahead", "\n\n" + one, 1},
			{"an empty line between", one + "\n" + one, 2},
			{"an empty line behind", one + "\n", 2},
			{"an empty line behind two", one + one + "\n", 3},
			{"two empty lines behind", one + "\n\n", 2},
			{"a blank line ahead", " \n" + one, 1},
			{"a blank line between", one + " \n" + one, 2},
			{"a blank line behind", one + " \n", 2},
			{"a letter behind", one + "x", 2},
			{"a blank behind", one + " ", 2},
			{"a tab behind", one + "\t", 2},
			{"a zero byte behind", one + "\x00", 2},
			{"a byte behind that is no UTF-8", one + "\xff", 2},
			{"a carriage return behind", one + "\r", 2},
			{"a carriage return for the line feed", x.line + "\r", 1},
			{"both", x.line + "\r\n", 1},
			{"both, the other way round", x.line + "\n\r", 2},
			{"carriage returns for all", x.line + "\r" + x.line + "\r", 1},
			{"another end of a line", x.line + "\u2028", 1},
			{"another end of a line, in bytes", x.line + "\x85", 1},
			{"two lines in one", x.line + x.line + "\n", 1},
			{"two lines in one, with a blank", x.line + " " + one, 1},
			{"an escape", x.line + "\\n", 1},
			{"a zero byte ahead", "\x00" + one, 1},
			{"a mark ahead", "\ufeff" + one, 1},
			{"a remark", "# " + one, 1},
		} {
			wantError(t, y.name, y.text, y.line, api.ErrLine)
			wantAsRead(t, y.name, y.text)
		}
	}
}

func TestNoLines(t *testing.T) {
	wantError(t, "no text", "", 0, api.ErrPlan)
	for _, text := range []string{"\n", "\n\n", strings.Repeat("\n", 16), strings.Repeat("\n", 17), strings.Repeat("\n", 18), " ", "\x00", "\r", "\t", "\xff", "\r\n", " \n", "x", "back", "back\n", " back\n", " back", "\nback"} {
		wantError(t, "no line of a step", text, 1, api.ErrLine)
	}
}

func TestNumberOfLines(t *testing.T) {
	for _, x := range ordinary() {
		for n := 1; n <= api.MaxSteps; n++ {
			text := strings.Repeat(x.line+"\n", n)
			if p, line, err := plan.Parse(text); err != api.OK || line != 0 || !same(p, slices.Repeat([]api.Step{x.s}, n)) {
				t.Errorf("%d lines: %v, %d, %d", n, p, line, err)
			}
		}
		for _, n := range []int{api.MaxSteps + 1, 18, 19, 31, 32, 33, 255, 256, 256 + 5, 1<<16 + 5} {
			wantError(t, "too many lines", strings.Repeat(x.line+"\n", n), 0, api.ErrPlan)
		}
	}
}

// wrongLines are wrong in one way each.
var wrongLines = []string{"", " ", "x", "ship", "ship tries 01 wait 9", "ship tries 0 wait 9", "ship tries 1 wait 10001", "hold 1 A tries 1 wait 9", "book 1000001 tries 1 wait 9", "ship tries 1 wait 9 ", "\x00", "\xff", "\r", strings.Repeat("back ", 100)}

// One wrong line at each place of texts of each size around MaxSteps lines: behind line 17 nobody sees it.
func TestOneWrongLine(t *testing.T) {
	for n := 1; n <= 20; n++ {
		for at := range n {
			for _, wrong := range wrongLines {
				lines := slices.Repeat([]string{"ship tries 1 wait 9"}, n)
				lines[at] = wrong
				text := strings.Join(lines, "\n") + "\n"
				if at <= api.MaxSteps {
					wantError(t, "a wrong line", text, at+1, api.ErrLine)
				} else {
					wantError(t, "a wrong line far behind", text, 0, api.ErrPlan)
				}
				wantAsRead(t, "a wrong line", text)
			}
		}
	}
}

// Text without its line feed behind some lines is a line too, up to the first one more than a plan has.
func TestTextBehindManyLines(t *testing.T) {
	for n := range 20 {
		lines := strings.Repeat("ship tries 1 wait 9\n", n)
		for _, behind := range []string{"x", " ", "\r", "\x00", "ship tries 1 wait 9", "ship tries 1 wait 9 back", "ship"} {
			if n <= api.MaxSteps {
				wantError(t, "text behind", lines+behind, n+1, api.ErrLine)
			} else {
				wantError(t, "text far behind", lines+behind, 0, api.ErrPlan)
			}
		}
	}
}

// Of several wrong lines the first one is told.
func TestSeveralWrongLines(t *testing.T) {
	for _, n := range []int{2, 3, 16, 17, 18, 40} {
		for first := range n {
			for second := first + 1; second < n; second++ {
				for _, wrong := range wrongLines {
					lines := slices.Repeat([]string{"ship tries 1 wait 9"}, n)
					lines[first], lines[second] = wrong, "y"
					text := strings.Join(lines, "\n") + "\n"
					if first <= api.MaxSteps {
						wantError(t, "two wrong lines", text, first+1, api.ErrLine)
					} else {
						wantError(t, "two wrong lines far behind", text, 0, api.ErrPlan)
					}
				}
			}
		}
	}
	for n := 1; n <= 40; n++ {
		wantError(t, "all wrong", strings.Repeat("x\n", n), 1, api.ErrLine)
		wantError(t, "all wrong behind the first", "ship tries 1 wait 9\n"+strings.Repeat("x\n", n), 2, api.ErrLine)
	}
}

// Texts of many millions of bytes end soon enough.
func TestHugeTexts(t *testing.T) {
	const right = "ship tries 1 wait 9\n"
	for _, piece := range []string{"\n", " ", "x", "1", "9", "0", "\x00", "\xff", "é", " back", "back ", "hold ", "tries 1 ", "ship tries 1 wait 9 "} {
		huge := strings.Repeat(piece, 1<<24/len(piece))
		wantError(t, "huge", huge, 1, api.ErrLine)
		wantError(t, "huge, with a line feed", huge+"\n", 1, api.ErrLine)
		wantError(t, "huge behind a line", right+huge, 2, api.ErrLine)
		wantError(t, "huge behind MaxSteps lines", strings.Repeat(right, 16)+huge, 17, api.ErrLine)
		wantError(t, "huge behind one more", strings.Repeat(right, 17)+huge, 0, api.ErrPlan)
		wantError(t, "huge in a line", "hold 2 a"+huge+" tries 1 wait 9\n", 1, api.ErrLine)
		if piece == "\n" {
			wantError(t, "huge behind the end of a line", "ship tries 1 wait 9"+huge, 2, api.ErrLine)
		} else {
			wantError(t, "huge at the end of a line", "ship tries 1 wait 9"+huge+"\n", 1, api.ErrLine)
		}
	}
	wantError(t, "very many lines", strings.Repeat(right, 1<<20), 0, api.ErrPlan)
}
