package text

import (
	"math"
	"slices"
	"strings"
	"testing"
	"unsafe"

	"anvil/api"
)

// allBytes has each byte once, so that those that only look like blanks or digits are tried as well.
func allBytes() string {
	b := make([]byte, 256)
	for i := range b {
		b[i] = byte(i)
	}
	return string(b)
}

func TestP101Split(t *testing.T) {
	for _, x := range []struct {
		s    string
		want []string
	}{
		{"", nil},
		{" ", nil},
		{" \t\n \n\t", nil},
		{"a", []string{"a"}},
		{" a  b\tc", []string{"a", "b", "c"}},
		{"a\nb\n", []string{"a", "b"}},
		{"\n\tab \t cd", []string{"ab", "cd"}},
		{"b a b", []string{"b", "a", "b"}},
		{"a\rb\vc\fd\x00e", []string{"a\rb\vc\fd\x00e"}},
		{"a\u00a0b \xff\x85", []string{"a\u00a0b", "\xff\x85"}},
	} {
		if got := Split(x.s); !slices.Equal(got, x.want) {
			t.Errorf("Split(%q): %q, not %q", x.s, got, x.want)
		}
	}
	for i := range 256 {
		c := byte(i)
		want := []string{"a" + string([]byte{c}) + "b"}
		if c == 32 || c == 9 || c == 10 {
			want = []string{"a", "b"}
		}
		if got := Split("a" + string([]byte{c}) + "b"); !slices.Equal(got, want) {
			t.Errorf("Split around byte %d: %q", c, got)
		}
	}
}

func TestP101SplitEndsWhereTheRangeEnds(t *testing.T) {
	n := 0
	for range words("a b c") {
		n++
		break
	}
	if n != 1 {
		t.Errorf("%d words told", n)
	}
}

func TestP101Join(t *testing.T) {
	for _, x := range []struct {
		l    []string
		want string
	}{
		{nil, ""},
		{[]string{}, ""},
		{[]string{""}, ""},
		{[]string{"a"}, "a"},
		{[]string{"a", "b", "c"}, "a b c"},
		{[]string{"a", "", "b"}, "a  b"},
		{[]string{"", ""}, " "},
		{[]string{" a ", "\n"}, " a  \n"},
	} {
		if got := Join(x.l); got != x.want {
			t.Errorf("Join(%q): %q, not %q", x.l, got, x.want)
		}
	}
}

func TestP101Trim(t *testing.T) {
	for _, x := range [][2]string{
		{"", ""},
		{" ", ""},
		{" \t\n", ""},
		{"a", "a"},
		{" a b ", "a b"},
		{"\n\t a \t\n b\n", "a \t\n b"},
		{"a ", "a"},
		{" a", "a"},
		{"\ra\v", "\ra\v"},
		{" \u00a0a\u2003 ", "\u00a0a\u2003"},
	} {
		if got := Trim(x[0]); got != x[1] {
			t.Errorf("Trim(%q): %q, not %q", x[0], got, x[1])
		}
	}
	for i := range 256 {
		c := string([]byte{byte(i)})
		want := c + "a" + c
		if i == 32 || i == 9 || i == 10 {
			want = "a"
		}
		if got := Trim(c + "a" + c); got != want {
			t.Errorf("Trim around byte %d: %q", i, got)
		}
	}
}

func TestP102Replace(t *testing.T) {
	for _, x := range [][4]string{
		{"aaa", "aa", "b", "ba"},
		{"aaaa", "aa", "b", "bb"},
		{"ab", "", "x", "abx"},
		{"", "", "x", "x"},
		{"ab", "", "", "ab"},
		{"", "", "", ""},
		{"", "a", "b", ""},
		{"abab", "ab", "", ""},
		{"abc", "x", "y", "abc"},
		{"abc", "abcd", "y", "abc"},
		{"xax", "x", "xx", "xxaxx"},
		{"aXbXc", "X", "X", "aXbXc"},
		{"ababa", "aba", "-", "-ba"},
		{"\xff\x80\xff", "\xff", "\x80", "\x80\x80\x80"},
		{"\u00e9", "\xa9", "!", "\xc3!"},
	} {
		if got, e := Replace(x[0], x[1], x[2]); got != x[3] || e != api.OK {
			t.Errorf("Replace(%q, %q, %q): %q, %d, not %q", x[0], x[1], x[2], got, e, x[3])
		}
	}
}

func TestP102ReplaceTooLong(t *testing.T) {
	full := strings.Repeat("a", api.MaxText)
	half := strings.Repeat("a", api.MaxText/2)
	for _, x := range []struct {
		s, from, to string
		long        bool
	}{
		{full, "a", "b", false},
		{full, "", "", false},
		{full, "x", full, false},
		{full, "", "b", true},
		{full[1:], "", "b", false},
		{half, "a", "bb", false},
		{half + "a", "a", "bb", true},
		{full + "a", "x", "y", true},
		{full + "a", "a", "b", true},
		{full + full, "aa", "b", false},
		{full + full, "a", "", false},
		{full + "ax", "ax", "", false},
		{"aa", "a", full, true},
		{"a", "a", full, false},
		{"a", "a", full + "a", true},
		{"", "", full + "a", true},
		{full + full, "a", full + full, true},
	} {
		got, e := Replace(x.s, x.from, x.to)
		if x.long && (got != "" || e != api.ErrLong) {
			t.Errorf("Replace of %d, %d, %d bytes: %d bytes, %d, where it is too long", len(x.s), len(x.from), len(x.to), len(got), e)
		}
		if !x.long && (e != api.OK || got != plainReplace(x.s, x.from, x.to)) {
			t.Errorf("Replace of %d, %d, %d bytes: %d bytes, %d", len(x.s), len(x.from), len(x.to), len(got), e)
		}
	}
}

// plainReplace says P102 once more, place by place.
func plainReplace(s, from, to string) string {
	if from == "" {
		return s + to
	}
	var b strings.Builder
	for i := 0; i < len(s); {
		if strings.HasPrefix(s[i:], from) {
			b.WriteString(to)
			i += len(from)
			continue
		}
		b.WriteByte(s[i])
		i++
	}
	return b.String()
}

// shortTexts tells all texts of at most most letters a and b.
func shortTexts(most int) []string {
	l := []string{""}
	for at := 0; at < len(l); at++ {
		if s := l[at]; len(s) < most {
			l = append(l, s+"a", s+"b")
		}
	}
	return l
}

func TestP102AllShortTexts(t *testing.T) {
	for _, s := range shortTexts(6) {
		for _, from := range shortTexts(3) {
			if got, want := Find(s, from), plainFind(s, from); got != want {
				t.Errorf("Find(%q, %q): %d, not %d", s, from, got, want)
			}
			for _, to := range shortTexts(2) {
				if got, e := Replace(s, from, to); e != api.OK || got != plainReplace(s, from, to) {
					t.Errorf("Replace(%q, %q, %q): %q, %d", s, from, to, got, e)
				}
			}
		}
	}
}

func plainFind(s, sub string) int {
	for i := 0; i <= len(s); i++ {
		if strings.HasPrefix(s[i:], sub) {
			return i
		}
	}
	return -1
}

func TestP102Find(t *testing.T) {
	for _, x := range []struct {
		s, sub string
		want   int
	}{
		{"abc", "a", 0},
		{"abc", "c", 2},
		{"abcbc", "bc", 1},
		{"abc", "", 0},
		{"", "", 0},
		{"", "a", -1},
		{"abc", "x", -1},
		{"abc", "abcd", -1},
		{"\u00e9x", "x", 2},
		{"a\x00b", "\x00", 1},
	} {
		if got := Find(x.s, x.sub); got != x.want {
			t.Errorf("Find(%q, %q): %d, not %d", x.s, x.sub, got, x.want)
		}
	}
}

func TestP103Sort(t *testing.T) {
	for _, x := range []struct{ l, want []string }{
		{nil, nil},
		{[]string{""}, []string{""}},
		{[]string{"b", "a", "b"}, []string{"a", "b"}},
		{[]string{"b", "a", "b", ""}, []string{"", "a", "b"}},
		{[]string{"a", "a", "a"}, []string{"a"}},
		{[]string{"a10", "a9", "a"}, []string{"a", "a10", "a9"}},
		{[]string{"a", "B", "_", "b", "A"}, []string{"A", "B", "_", "a", "b"}},
		{[]string{"\xff", "\u00e9", "z", "\x80"}, []string{"z", "\x80", "\u00e9", "\xff"}},
		{[]string{"a b", "a", "a\n", "a "}, []string{"a", "a\n", "a ", "a b"}},
	} {
		if got := Sort(x.l); !slices.Equal(got, x.want) {
			t.Errorf("Sort(%q): %q, not %q", x.l, got, x.want)
		}
	}
}

func TestP104Number(t *testing.T) {
	for _, x := range []struct {
		s  string
		n  int
		ok bool
	}{
		{"0", 0, true},
		{"7", 7, true},
		{"007", 7, true},
		{"000000000", 0, true},
		{"000000001", 1, true},
		{"123456789", 123456789, true},
		{"999999999", 999999999, true},
		{"", 0, false},
		{"1000000000", 0, false},
		{"0000000001", 0, false},
		{"0000000000", 0, false},
		{"1x", 0, false},
		{"x1", 0, false},
		{"1x1", 0, false},
		{"-1", 0, false},
		{"+1", 0, false},
		{" 1", 0, false},
		{"1 ", 0, false},
		{"1\n", 0, false},
		{"0x1", 0, false},
		{"1_0", 0, false},
		{"1.0", 0, false},
		{"\u0661", 0, false},
	} {
		if n, ok := Number(x.s); n != x.n || ok != x.ok {
			t.Errorf("Number(%q): %d, %v, not %d, %v", x.s, n, ok, x.n, x.ok)
		}
	}
	all := allBytes()
	for i := range len(all) {
		if _, ok := Number("1" + all[i:i+1]); ok != ('0' <= i && i <= '9') {
			t.Errorf("Number with byte %d: %v", i, ok)
		}
	}
}

func TestP104Decimal(t *testing.T) {
	for _, x := range []struct {
		n    int
		want string
	}{
		{0, "0"},
		{7, "7"},
		{-5, "-5"},
		{10, "10"},
		{120, "120"},
		{-100, "-100"},
		{999999999, "999999999"},
		{math.MaxInt64, "9223372036854775807"},
		{math.MinInt64, "-9223372036854775808"},
	} {
		if got := Decimal(x.n); got != x.want {
			t.Errorf("Decimal(%d): %q, not %q", x.n, got, x.want)
		}
	}
	for _, n := range []int{0, 1, 9, 10, 99, 100, 123456789, 999999999} {
		if got, ok := Number(Decimal(n)); got != n || !ok {
			t.Errorf("Number(Decimal(%d)): %d, %v", n, got, ok)
		}
	}
}

func TestP105HandedInStands(t *testing.T) {
	for _, call := range []func(l []string){
		func(l []string) { Sort(l) },
		func(l []string) { Join(l) },
	} {
		room := []string{"c", "a", "c", "b", "spare", "room"}
		call(room[:4])
		if want := []string{"c", "a", "c", "b", "spare", "room"}; !slices.Equal(room, want) {
			t.Errorf("handed in %q, then %q", want, room)
		}
	}
}

func TestP105ListsAreNew(t *testing.T) {
	l := []string{"a", "b"}
	got := Sort(l)
	got[0] = "x"
	_ = append(got[:1], "y")
	if !slices.Equal(l, []string{"a", "b"}) {
		t.Errorf("Sort's answer shares memory with its list: %q", l)
	}
	l[1] = "z"
	if again := Sort([]string{"a", "b"}); !slices.Equal(again, []string{"a", "b"}) {
		t.Errorf("Sort the second time: %q", again)
	}
	one, two := Split("a b"), Split("a b")
	one[0] = "x"
	if !slices.Equal(two, []string{"a", "b"}) {
		t.Errorf("two answers of Split share memory: %q", two)
	}
}

func TestCopies(t *testing.T) {
	l := []string{"b", "", "a", "b", "spare"}
	got := Copies(l[:4])
	if want := []string{"b", "", "a", "b"}; !slices.Equal(got, want) {
		t.Errorf("Copies: %q, not %q", got, want)
	}
	got[0] = "x"
	_ = append(got, "y")
	if want := []string{"b", "", "a", "b", "spare"}; !slices.Equal(l, want) || len(Copies(nil)) != 0 {
		t.Errorf("Copies shares memory with its list: %q", l)
	}
}

// share tells whether one of two texts has a byte in the other's memory.
func share(a, b string) bool {
	if a == "" || b == "" {
		return false
	}
	from, to := uintptr(unsafe.Pointer(unsafe.StringData(a))), uintptr(unsafe.Pointer(unsafe.StringData(b)))
	return from < to+uintptr(len(b)) && to < from+uintptr(len(a))
}

func TestP105TextsAreNew(t *testing.T) {
	s := strings.Clone("some words of a text")
	lone := strings.Clone("lone")
	replaced := func(s, from, to string) string {
		got, _ := Replace(s, from, to)
		return got
	}
	for _, x := range []struct {
		name    string
		answers []string
		given   string
	}{
		{"Split", Split(s), s},
		{"Split", Split(lone), lone},
		{"Join", []string{Join([]string{lone})}, lone},
		{"Join", []string{Join([]string{s, lone})}, s},
		{"Trim", []string{Trim(s)}, s},
		{"Sort", Sort([]string{s, "a", s}), s},
		{"Copies", Copies([]string{s, lone, s}), s},
		{"Replace", []string{replaced(s, "o", "")}, s},
		{"Replace", []string{replaced(s, "?", "!")}, s},
		{"Replace", []string{replaced(s, "o", "o")}, s},
		{"Replace", []string{replaced(s, "", "")}, s},
		{"Replace", []string{replaced("", "", s)}, s},
		{"Replace", []string{replaced("?", "?", s)}, s},
	} {
		for _, a := range x.answers {
			if share(a, x.given) {
				t.Errorf("%s: %q shares memory with %q", x.name, a, x.given)
			}
		}
	}
}
