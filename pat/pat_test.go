package pat

import (
	"slices"
	"strings"
	"testing"
	"unsafe"
)

// shortTexts tells all texts of at most most bytes out of letters.
func shortTexts(letters string, most int) []string {
	l := []string{""}
	for at := 0; at < len(l); at++ {
		if s := l[at]; len(s) < most {
			for i := range len(letters) {
				l = append(l, s+letters[i:i+1])
			}
		}
	}
	return l
}

// plainMark tells the place of the first % of a pattern, or -1.
func plainMark(pattern string) int {
	for i := range len(pattern) {
		if pattern[i] == '%' {
			return i
		}
	}
	return -1
}

// plainMatch says P302 once more: it tries every stem that a word could have.
func plainMatch(pattern, word string) (string, bool) {
	at := plainMark(pattern)
	if at < 0 {
		return "", pattern == word
	}
	for from := range len(word) + 1 {
		for to := from; to <= len(word); to++ {
			if word[:from] == pattern[:at] && word[to:] == pattern[at+1:] {
				return word[from:to], true
			}
		}
	}
	return "", false
}

// plainPut and plainSubst say P303 once more.
func plainPut(pattern, stem string) string {
	at := plainMark(pattern)
	if at < 0 {
		return pattern
	}
	return pattern[:at] + stem + pattern[at+1:]
}

func plainSubst(pattern, to, word string) string {
	stem, ok := plainMatch(pattern, word)
	if !ok {
		return word
	}
	if plainMark(pattern) < 0 {
		return to
	}
	return plainPut(to, stem)
}

func TestP301Has(t *testing.T) {
	for _, x := range []struct {
		pattern string
		want    bool
	}{
		{"", false},
		{"a", false},
		{"%", true},
		{"%%", true},
		{"a%", true},
		{"%.c", true},
		{"a%b%c", true},
		{"\\%", true},
		{"$*?[", false},
		{"\x00%\xff", true},
		{"\uff05", false},
	} {
		if got := Has(x.pattern); got != x.want {
			t.Errorf("Has(%q): %v", x.pattern, got)
		}
	}
	for i := range 256 {
		if got := Has("a" + string([]byte{byte(i)}) + "b"); got != (i == '%') {
			t.Errorf("Has with byte %d: %v", i, got)
		}
	}
}

// The first % counts: what other calls make of a pattern must tell so.
func TestP301FirstCounts(t *testing.T) {
	if stem, ok := Match("%%", "x%"); stem != "x" || !ok {
		t.Errorf("Match: %q, %v", stem, ok)
	}
	if stem, ok := Match("%%", "%x"); stem != "" || ok {
		t.Errorf("Match: %q, %v", stem, ok)
	}
	if got := Put("%%", "x"); got != "x%" {
		t.Errorf("Put: %q", got)
	}
	if got := Subst("%b%", "%c%", "ab%"); got != "ac%" {
		t.Errorf("Subst: %q", got)
	}
}

func TestP302Match(t *testing.T) {
	for _, x := range []struct {
		pattern, word, stem string
		ok                  bool
	}{
		{"%.c", "x.c", "x", true},
		{"%.c", ".c", "", true},
		{"%.c", "x.cc", "", false},
		{"%.c", "x.h", "", false},
		{"%.c", "c", "", false},
		{"%.c", "", "", false},
		{"%.c", "%.c", "%", true},
		{"%.c", "a/b.c", "a/b", true},
		{"%.c", "a b.c", "a b", true},
		{"lib%.a", "libm.a", "m", true},
		{"lib%.a", "lib.a", "", true},
		{"lib%.a", "xlibm.a", "", false},
		{"lib%.a", "libm.ax", "", false},
		{"a%", "a", "", true},
		{"a%", "ab", "b", true},
		{"a%", "ba", "", false},
		{"%", "", "", true},
		{"%", "x", "x", true},
		{"%", "%", "%", true},
		{"a%a", "a", "", false},
		{"a%a", "aa", "", true},
		{"a%a", "aaa", "a", true},
		{"ab%ba", "aba", "", false},
		{"ab%bc", "abc", "", false},
		{"ab%bc", "abbc", "", true},
		{"aa%aa", "aaa", "", false},
		{"aa%aa", "aaaaa", "a", true},
		{"x", "x", "", true},
		{"x", "y", "", false},
		{"x", "xx", "", false},
		{"xx", "x", "", false},
		{"x", "", "", false},
		{"", "", "", true},
		{"", "x", "", false},
		{"a%b%c", "axb%c", "x", true},
		{"a%b%c", "ab%c", "", true},
		{"a%b%c", "axbyc", "", false},
		{"a%b%c", "a%b%c", "%", true},
		{"%%", "", "", false},
		{"%%", "%", "", true},
		{"%%", "%%", "%", true},
		{"\\%", "\\x", "x", true},
		{"*%", "ab", "", false},
		{"\xc3%\xa9", "\xc3\xa9", "", true},
		{"\xff%", "\xff\x00\n", "\x00\n", true},
	} {
		if stem, ok := Match(x.pattern, x.word); stem != x.stem || ok != x.ok {
			t.Errorf("Match(%q, %q): %q, %v, not %q, %v", x.pattern, x.word, stem, ok, x.stem, x.ok)
		}
	}
}

func TestP302AllShortTexts(t *testing.T) {
	texts := shortTexts("ab%", 5)
	for _, pattern := range texts {
		for _, word := range texts {
			stem, ok := Match(pattern, word)
			wantStem, want := plainMatch(pattern, word)
			if stem != wantStem || ok != want {
				t.Errorf("Match(%q, %q): %q, %v, not %q, %v", pattern, word, stem, ok, wantStem, want)
			}
			if ok && Put(pattern, stem) != word {
				t.Errorf("Put(%q, %q): not %q", pattern, stem, word)
			}
		}
	}
}

func TestP303Put(t *testing.T) {
	for _, x := range [][3]string{
		{"%.o", "x", "x.o"},
		{"%.o", "", ".o"},
		{"%", "", ""},
		{"%", "x", "x"},
		{"x", "y", "x"},
		{"", "y", ""},
		{"", "", ""},
		{"a%", "b", "ab"},
		{"a%c", "b", "abc"},
		{"%a%", "b", "ba%"},
		{"%%", "b", "b%"},
		{"a%", "%", "a%"},
		{"%b", "%%", "%%b"},
		{"d/%.o", "s/x", "d/s/x.o"},
		{"\xff%", "\x80\n", "\xff\x80\n"},
	} {
		if got := Put(x[0], x[1]); got != x[2] {
			t.Errorf("Put(%q, %q): %q, not %q", x[0], x[1], got, x[2])
		}
	}
}

func TestP303Subst(t *testing.T) {
	for _, x := range [][4]string{
		{"%.c", "%.o", "a.c", "a.o"},
		{"%.c", "%.o", "a.h", "a.h"},
		{"%.c", "%.o", ".c", ".o"},
		{"%.c", "y", "a.c", "y"},
		{"%.c", "", "a.c", ""},
		{"%.c", "%", "a.c", "a"},
		{"%", "d/%", "a.c", "d/a.c"},
		{"%", "<%>", "", "<>"},
		{"a", "b%", "a", "b%"},
		{"a", "b", "a", "b"},
		{"a", "", "a", ""},
		{"a", "b", "c", "c"},
		{"a", "b", "aa", "aa"},
		{"a", "b", "", ""},
		{"", "b%", "", "b%"},
		{"", "b", "a", "a"},
		{"a%a", "x%", "a", "a"},
		{"a%a", "x%", "aa", "x"},
		{"%.c", "%.%", "a.c", "a.%"},
		{"%b%", "%", "ab%", "a"},
		{"%b%", "%", "abc", "abc"},
		{"%.c", "x%", "%.c", "x%"},
	} {
		if got := Subst(x[0], x[1], x[2]); got != x[3] {
			t.Errorf("Subst(%q, %q, %q): %q, not %q", x[0], x[1], x[2], got, x[3])
		}
	}
}

func TestP303AllShortTexts(t *testing.T) {
	texts := shortTexts("ab%", 3)
	for _, a := range texts {
		for _, b := range texts {
			if got, want := Put(a, b), plainPut(a, b); got != want {
				t.Errorf("Put(%q, %q): %q, not %q", a, b, got, want)
			}
			for _, c := range texts {
				if got, want := Subst(a, b, c), plainSubst(a, b, c); got != want {
					t.Errorf("Subst(%q, %q, %q): %q, not %q", a, b, c, got, want)
				}
			}
		}
	}
}

func TestP304Filter(t *testing.T) {
	for _, x := range []struct{ patterns, words, in, out []string }{
		{nil, nil, nil, nil},
		{[]string{}, []string{}, nil, nil},
		{[]string{"%"}, nil, nil, nil},
		{nil, []string{"b", "a", "b"}, nil, []string{"b", "a", "b"}},
		{[]string{"%.c", "x"}, []string{"a.c", "x", "y", "a.c"}, []string{"a.c", "x", "a.c"}, []string{"y"}},
		{[]string{"x", "%.c"}, []string{"a.c", "x", "y", "a.c"}, []string{"a.c", "x", "a.c"}, []string{"y"}},
		{[]string{"%"}, []string{"b", "", "a", "b"}, []string{"b", "", "a", "b"}, nil},
		{[]string{"%", "a", "a%"}, []string{"a", "a"}, []string{"a", "a"}, nil},
		{[]string{""}, []string{"a", "", "b", ""}, []string{"", ""}, []string{"a", "b"}},
		{[]string{"z"}, []string{"b", "a", "b", "a"}, nil, []string{"b", "a", "b", "a"}},
		{[]string{"a%a", "b%"}, []string{"a", "aa", "b", "ab", "ba"}, []string{"aa", "b", "ba"}, []string{"a", "ab"}},
		{[]string{"%a%"}, []string{"a", "a%", "ba%", "bab"}, []string{"a%", "ba%"}, []string{"a", "bab"}},
		{[]string{"a b"}, []string{"a", "b", "a b"}, []string{"a b"}, []string{"a", "b"}},
	} {
		if got := Filter(x.patterns, x.words, false); !slices.Equal(got, x.in) {
			t.Errorf("Filter(%q, %q): %q, not %q", x.patterns, x.words, got, x.in)
		}
		if got := Filter(x.patterns, x.words, true); !slices.Equal(got, x.out) {
			t.Errorf("Filter(%q, %q) out: %q, not %q", x.patterns, x.words, got, x.out)
		}
	}
}

// Each word is in one of the two answers, in order, as often as it stands in the list.
func TestP304AllShortTexts(t *testing.T) {
	words := append(shortTexts("ab%", 3), shortTexts("a%", 2)...)
	for _, p := range shortTexts("ab%", 2) {
		for _, q := range shortTexts("a%", 2) {
			var in, out []string
			for _, w := range words {
				_, one := plainMatch(p, w)
				_, two := plainMatch(q, w)
				if one || two {
					in = append(in, w)
				} else {
					out = append(out, w)
				}
			}
			if got := Filter([]string{p, q}, words, false); !slices.Equal(got, in) {
				t.Errorf("Filter by %q and %q: %q, not %q", p, q, got, in)
			}
			if got := Filter([]string{p, q}, words, true); !slices.Equal(got, out) {
				t.Errorf("Filter out by %q and %q: %q, not %q", p, q, got, out)
			}
		}
	}
}

func TestP304ChosenEndsWhereTheRangeEnds(t *testing.T) {
	n := 0
	for range chosen([]string{"a", "b", "c"}, shapesOf([]string{"%"}).match, true) {
		n++
		break
	}
	if n != 1 {
		t.Errorf("%d words told", n)
	}
}

func TestP305HandedInStands(t *testing.T) {
	for _, out := range []bool{false, true} {
		patterns := []string{"%.c", "x", "spare", "room"}
		words := []string{"y", "a.c", "x", "y", "spare", "room"}
		got := Filter(patterns[:2], words[:4], out)
		got = append(got, "z")
		for i := range got {
			got[i] = "z"
		}
		if want := []string{"%.c", "x", "spare", "room"}; !slices.Equal(patterns, want) {
			t.Errorf("handed in %q, then %q", want, patterns)
		}
		if want := []string{"y", "a.c", "x", "y", "spare", "room"}; !slices.Equal(words, want) {
			t.Errorf("handed in %q, then %q", want, words)
		}
	}
}

func TestP305NothingIsKept(t *testing.T) {
	patterns, words := []string{"%.c"}, []string{"a.c", "b.c", "d"}
	first := Filter(patterns, words, false)
	patterns[0], words[0], words[1] = "d", "x", "y"
	if want := []string{"a.c", "b.c"}; !slices.Equal(first, want) {
		t.Errorf("an answer turned with its list: %q", first)
	}
	second := Filter([]string{"%.c"}, []string{"a.c", "b.c", "d"}, false)
	first[0] = "z"
	if want := []string{"a.c", "b.c"}; !slices.Equal(second, want) {
		t.Errorf("two answers share memory: %q", second)
	}
}

// share tells whether one of two texts has a byte in the other's memory.
func share(a, b string) bool {
	if a == "" || b == "" {
		return false
	}
	from, to := uintptr(unsafe.Pointer(unsafe.StringData(a))), uintptr(unsafe.Pointer(unsafe.StringData(b)))
	return from < to+uintptr(len(b)) && to < from+uintptr(len(a))
}

func TestP305TextsAreNew(t *testing.T) {
	word, plain := strings.Clone("some-word.c"), strings.Clone("without a mark")
	stemOf := func(pattern, word string) string {
		stem, _ := Match(pattern, word)
		return stem
	}
	for _, x := range []struct {
		name    string
		answers []string
		given   string
	}{
		{"Match", []string{stemOf("%.c", word), stemOf("%", word), stemOf("some%", word)}, word},
		{"Put of the stem alone", []string{Put("%", word)}, word},
		{"Put around a stem", []string{Put("a%b", word)}, word},
		{"Put without a mark", []string{Put(plain, "x")}, plain},
		{"Subst, no match", []string{Subst("x", "y", word)}, word},
		{"Subst, the whole stem", []string{Subst("%", "%", word)}, word},
		{"Subst, a part", []string{Subst("%.c", "%", word)}, word},
		{"Subst, to as it stands", []string{Subst("x", plain, "x"), Subst("%", plain, "x")}, plain},
		{"Filter", Filter([]string{"%"}, []string{"a", word, word}, false), word},
		{"Filter out", Filter(nil, []string{word, word}, true), word},
	} {
		for i, a := range x.answers {
			if a == "" {
				t.Errorf("%s: answer %d is empty", x.name, i)
			}
			if share(a, x.given) {
				t.Errorf("%s: %q shares memory with %q", x.name, a, x.given)
			}
		}
	}
}
