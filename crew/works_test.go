package crew_test

import (
	"bytes"
	"math"
	"testing"

	"drayage/api"
	"drayage/crew"
)

func wantEncode(t *testing.T, name string, w api.Work, want []byte, wantErr api.Errno) {
	t.Helper()
	before := string(w.Name)
	if b, err := crew.Encode(w); err != wantErr || !bytes.Equal(b, want) {
		t.Errorf("%s: Encode of %v: %x, %d, want %x, %d", name, w, b, err, want, wantErr)
	}
	if string(w.Name) != before {
		t.Errorf("%s: Encode made %q of the name %q", name, w.Name, before)
	}
}

func wantDecode(t *testing.T, name string, b []byte, want api.Work, wantErr api.Errno) {
	t.Helper()
	before := string(b)
	if w, err := crew.Decode(b); err != wantErr || !sameWork(w, want) {
		t.Errorf("%s: Decode of %x: %v, %d, want %v, %d", name, b, w, err, want, wantErr)
	}
	if string(b) != before {
		t.Errorf("%s: Decode made %x of %x", name, b, before)
	}
}

// wantAsRead compares Decode with the words of the chapter, and encodes again what it returns.
func wantAsRead(t *testing.T, name string, b []byte) {
	t.Helper()
	want, isRight := readByTheWords(b)
	if !isRight {
		wantDecode(t, name, b, api.Work{}, api.ErrWork)
		return
	}
	wantDecode(t, name, b, want, api.OK)
	wantEncode(t, name, want, b, api.OK)
}

// allBytes are 256 of them, each one once.
func allBytes() string {
	var b []byte
	for i := range 256 {
		b = append(b, byte(i))
	}
	return string(b)
}

// names are of every length that is near a bound, and of all bytes.
func names() []string {
	l := []string{"", "a", "ann", "\x00", "\x00\x00", "\xff", "a\x00", "!", " ", "\n", "\u00e4\u20ac", "\xc3", "\xed\xa0\x80"}
	for _, n := range []int{2, 30, api.MaxKey - 1, api.MaxKey} {
		l = append(l, long(n), string(make([]byte, n)))
	}
	for at := 0; at < 256; at += api.MaxKey {
		l = append(l, allBytes()[at:at+api.MaxKey])
	}
	return l
}

// ordinary returns valid works of each What, with each number and each name.
func ordinary() []api.Work {
	var all []api.Work
	for what := 1; what <= 6; what++ {
		for _, n := range []int{0, 1, 2, 255, 256, 65535, 65536, 1<<24 - 1, 1 << 24, api.MaxMoney - 1, api.MaxMoney} {
			for _, name := range names() {
				all = append(all, work(what, n, name))
			}
		}
	}
	return all
}

type wrong struct {
	name string
	w    api.Work
}

// broken returns works that are not valid, for one reason each.
func broken() []wrong {
	var all []wrong
	for _, what := range []int{0, 7, 8, 255, 256, 256 + 1, 256 + 6, -1, -6, 1<<32 + 1, math.MinInt, math.MaxInt} {
		all = append(all, wrong{"another What", work(what, 0, "")}, wrong{"another What with a name", work(what, 258, "a")})
	}
	for what := 1; what <= 6; what++ {
		for _, n := range []int{-1, -258, math.MinInt32, math.MinInt, api.MaxMoney + 1, math.MaxInt32, 1 << 31, math.MaxUint32, 1 << 32, 1<<32 + 1, math.MaxInt} {
			all = append(all, wrong{"N out of bounds", work(what, n, "a")}, wrong{"N out of bounds, no name", work(what, n, "")})
		}
		for _, n := range []int{api.MaxKey + 1, 64, 200, 255, 256, 257, 256 + api.MaxKey, 512, 70000} {
			all = append(all, wrong{"a long name", work(what, 1, long(n))})
		}
	}
	return append(all,
		wrong{"nothing right", work(0, -1, long(33))},
		wrong{"What and N", work(7, -1, "a")},
		wrong{"What and the name", work(7, 1, long(33))},
		wrong{"N and the name", work(1, api.MaxMoney+1, long(33))})
}

// Works and their bytes, written out.
func TestWorks(t *testing.T) {
	for _, x := range []struct {
		w    api.Work
		want string
	}{
		{work(api.WorkHold, 258, "a"), "\x01\x00\x00\x01\x02\x01a"},
		{work(api.WorkShip, 0, ""), "\x02\x00\x00\x00\x00\x00"},
		{work(api.WorkAuthorise, api.MaxMoney, "ann"), "\x03\x3b\x9a\xca\x00\x03ann"},
		{work(api.WorkCapture, 1, ""), "\x04\x00\x00\x00\x01\x00"},
		{work(api.WorkBook, 0x01020304, ""), "\x05\x01\x02\x03\x04\x00"},
		{work(api.WorkNotice, 0, long(32)), "\x06\x00\x00\x00\x00\x20" + long(32)},
		{work(api.WorkNotice, 0, "\x00\xff"), "\x06\x00\x00\x00\x00\x02\x00\xff"},
	} {
		wantEncode(t, "written out", x.w, []byte(x.want), api.OK)
		wantDecode(t, "written out", []byte(x.want), x.w, api.OK)
	}
}

func TestThereAndBack(t *testing.T) {
	for _, w := range ordinary() {
		wantEncode(t, "ordinary", w, bytesOf(w), api.OK)
		wantDecode(t, "ordinary", bytesOf(w), w, api.OK)
	}
}

// What is not valid has no encoding: the bytes that it would have are those of no work, or of another one.
func TestBrokenWorks(t *testing.T) {
	for _, x := range broken() {
		wantEncode(t, x.name, x.w, nil, api.ErrWork)
		wantAsRead(t, x.name, bytesOf(x.w))
		if w, err := crew.Decode(bytesOf(x.w)); err == api.OK && sameWork(w, x.w) {
			t.Errorf("%s: Decode returns %v", x.name, w)
		}
	}
}

func TestEdges(t *testing.T) {
	for what := -1; what <= 8; what++ {
		for _, n := range []int{-1, 0, api.MaxMoney, api.MaxMoney + 1} {
			for _, size := range []int{0, 1, api.MaxKey, api.MaxKey + 1} {
				w, want, err := work(what, n, long(size)), []byte(nil), api.ErrWork
				if isWork(w) {
					want, err = bytesOf(w), api.OK
				}
				wantEncode(t, "edge", w, want, err)
				wantAsRead(t, "edge", bytesOf(w))
			}
		}
	}
}

func TestNilNames(t *testing.T) {
	for what := 1; what <= 6; what++ {
		for _, name := range [][]byte{nil, {}, make([]byte, 0, 9)} {
			wantEncode(t, "no name", api.Work{What: what, N: 3, Name: name}, []byte{byte(what), 0, 0, 0, 3, 0}, api.OK)
		}
	}
	wantEncode(t, "not valid, nil", api.Work{}, nil, api.ErrWork)
}

// chosen returns works whose bytes can all be changed one by one.
func chosen() []api.Work {
	var l []api.Work
	for what := 1; what <= 6; what++ {
		for _, n := range []int{0, 258, api.MaxMoney} {
			for _, name := range []string{"", "ab", long(api.MaxKey)} {
				l = append(l, work(what, n, name))
			}
		}
	}
	return l
}

// Cut anywhere, no bytes are a work: the length of the name tells.
func TestFewerBytes(t *testing.T) {
	for _, w := range chosen() {
		b := bytesOf(w)
		for size := range b {
			wantDecode(t, "cut", b[:size], api.Work{}, api.ErrWork)
			wantDecode(t, "cut at the beginning", b[len(b)-size:], api.Work{}, api.ErrWork)
		}
	}
}

func TestMoreBytes(t *testing.T) {
	for _, w := range chosen() {
		b := bytesOf(w)
		for more := range 256 {
			wantDecode(t, "a byte behind", append(bytes.Clone(b), byte(more)), api.Work{}, api.ErrWork)
			wantAsRead(t, "a byte ahead", append([]byte{byte(more)}, b...))
		}
		wantDecode(t, "twice", append(bytes.Clone(b), b...), api.Work{}, api.ErrWork)
		wantDecode(t, "many behind", append(bytes.Clone(b), make([]byte, 256)...), api.Work{}, api.ErrWork)
	}
}

func TestChangedBytes(t *testing.T) {
	for _, w := range chosen() {
		for at := range bytesOf(w) {
			for with := range 256 {
				b := bytesOf(w)
				b[at] = byte(with)
				wantAsRead(t, "changed", b)
			}
		}
	}
}

func TestDecodeOfNothing(t *testing.T) {
	wantDecode(t, "nil", nil, api.Work{}, api.ErrWork)
	wantDecode(t, "empty", []byte{}, api.Work{}, api.ErrWork)
	for size := range 600 {
		wantDecode(t, "zeros", make([]byte, size), api.Work{}, api.ErrWork)
		wantDecode(t, "all bits", bytes.Repeat([]byte{255}, size), api.Work{}, api.ErrWork)
		wantAsRead(t, "ones", bytes.Repeat([]byte{1}, size)) // seven are a work
		wantAsRead(t, "fives", bytes.Repeat([]byte{5}, size))
	}
	wantDecode(t, "very many", make([]byte, 1<<20), api.Work{}, api.ErrWork)
}

// Two works with the same bytes are the same.
func TestOneForm(t *testing.T) {
	seen := map[string]api.Work{}
	for _, w := range ordinary() {
		b, _ := crew.Encode(w)
		if other, isThere := seen[string(b)]; isThere && !sameWork(w, other) {
			t.Errorf("%v and %v have the bytes %x", w, other, b)
		}
		seen[string(b)] = w
	}
}

func TestWorksShareNoMemory(t *testing.T) {
	for _, w := range chosen() {
		want := bytesOf(w)
		name := append(bytes.Clone(w.Name), "behind"...)
		one, _ := crew.Encode(api.Work{What: w.What, N: w.N, Name: name[:len(w.Name)]})
		two, _ := crew.Encode(api.Work{What: w.What, N: w.N, Name: name[:len(w.Name)]})
		if string(name[len(w.Name):]) != "behind" {
			t.Errorf("Encode wrote behind the name: %q", name)
		}
		spoil(name)
		spoil(one)
		if !bytes.Equal(two, want) {
			t.Errorf("Encode of %v shares memory: %x, want %x", w, two, want)
		}

		b := append(bytes.Clone(want), "behind"...)
		first, _ := crew.Decode(b[:len(want)])
		second, _ := crew.Decode(b[:len(want)])
		if string(b[len(want):]) != "behind" {
			t.Errorf("Decode wrote behind the bytes: %q", b)
		}
		spoil(b)
		spoil(first.Name)
		if !sameWork(second, w) {
			t.Errorf("Decode of %x shares memory: %v, want %v", want, second, w)
		}
	}
}

func FuzzEncode(f *testing.F) {
	f.Add(1, 258, []byte("a"))
	f.Add(6, api.MaxMoney, make([]byte, api.MaxKey))
	f.Add(7, api.MaxMoney+1, make([]byte, api.MaxKey+1))
	f.Fuzz(func(t *testing.T, what, n int, name []byte) {
		w := api.Work{What: what, N: n, Name: name}
		if !isWork(w) {
			wantEncode(t, "fuzzed", w, nil, api.ErrWork)
			wantAsRead(t, "fuzzed", bytesOf(w))
			return
		}
		wantEncode(t, "fuzzed", w, bytesOf(w), api.OK)
		wantDecode(t, "fuzzed", bytesOf(w), w, api.OK)
	})
}

func FuzzDecode(f *testing.F) {
	for _, w := range chosen() {
		f.Add(bytesOf(w))
	}
	f.Fuzz(func(t *testing.T, b []byte) {
		wantAsRead(t, "fuzzed", b)
	})
}
