package glob

import (
	"strings"
	"testing"
	"unsafe"
)

// shortTexts tells all texts of at most most bytes out of letters.
func shortTexts(letters string, most int) []string {
	l := []string{""}
	for at := 0; at < len(l); at++ {
		if s := l[at]; len(s) < most {
			for i := range len(letters) {
				l = append(l, s+letters[i:i+1])
			}
		}
	}
	return l
}

// plainSet says once more what a set is: of a text that begins with [, how long the set is (0, if there is none) and which bytes are in it.
func plainSet(text string) (int, [256]bool) {
	var in [256]bool
	begin := 1
	turned := len(text) > 1 && (text[1] == '!' || text[1] == '^')
	if turned {
		begin = 2
	}
	end := begin + 1
	for end < len(text) && text[end] != ']' {
		end++
	}
	if end >= len(text) {
		return 0, in
	}
	for at := begin; at < end; at++ {
		if at+2 >= end || text[at+1] != '-' {
			in[text[at]] = true
			continue
		}
		for b := int(text[at]); b <= int(text[at+2]); b++ {
			in[b] = true
		}
		at += 2
	}
	for b := range in {
		in[b] = in[b] != turned
	}
	return end + 1, in
}

// plainRest says P402 once more, without the rule of the . at the beginning: it tries every way in which a * may match.
func plainRest(pattern, name string) bool {
	if pattern == "" {
		return name == ""
	}
	if pattern[0] == '*' {
		return plainRest(pattern[1:], name) || name != "" && plainRest(pattern, name[1:])
	}
	if name == "" {
		return false
	}
	if pattern[0] == '?' {
		return plainRest(pattern[1:], name[1:])
	}
	if pattern[0] == '[' {
		if n, in := plainSet(pattern); n > 0 {
			return in[name[0]] && plainRest(pattern[n:], name[1:])
		}
	}
	if pattern[0] == '\\' && len(pattern) > 1 {
		pattern = pattern[1:]
	}
	return pattern[0] == name[0] && plainRest(pattern[1:], name[1:])
}

func plainMatch(pattern, name string) bool {
	if strings.HasPrefix(name, ".") && !strings.HasPrefix(pattern, ".") && !strings.HasPrefix(pattern, `\.`) {
		return false
	}
	return plainRest(pattern, name)
}

// plainHas and plainPlain say P401 once more.
func plainHas(pattern string) bool {
	if pattern == "" {
		return false
	}
	switch pattern[0] {
	case '*', '?':
		return true
	case '[':
		if n, _ := plainSet(pattern); n > 0 {
			return true
		}
	case '\\':
		if len(pattern) > 1 {
			return plainHas(pattern[2:])
		}
	}
	return plainHas(pattern[1:])
}

func plainPlain(pattern string) string {
	if pattern == "" {
		return ""
	}
	n := 1
	switch pattern[0] {
	case '[':
		if long, _ := plainSet(pattern); long > 0 {
			n = long
		}
	case '\\':
		if len(pattern) > 1 {
			return pattern[1:2] + plainPlain(pattern[2:])
		}
	}
	return pattern[:n] + plainPlain(pattern[n:])
}

func TestP401Has(t *testing.T) {
	for _, x := range []struct {
		pattern string
		want    bool
	}{
		{"", false},
		{"a", false},
		{"a.c", false},
		{"*", true},
		{"?", true},
		{"a*", true},
		{"*a", true},
		{"a?b", true},
		{`\*`, false},
		{`\?`, false},
		{`a\*`, false},
		{`a\\*`, true},
		{`a\\\*`, false},
		{`\a*`, true},
		{`\*?`, true},
		{`\`, false},
		{`\\`, false},
		{`*\`, true},
		{"[x]", true},
		{"[x", false},
		{"x]", false},
		{"[", false},
		{"]", false},
		{"[]", false},
		{"[]]", true},
		{"[!]", false},
		{"[^]", false},
		{"[!]]", true},
		{"[^]]", true},
		{"[!", false},
		{"[!a]", true},
		{"[[]", true},
		{"[[", false},
		{"][", false},
		{"][]", false},
		{"][]]", true},
		{`\[x]`, false},
		{`\[[x]`, true},
		{`[x\]`, true},
		{`[\]`, true},
		{`[\]]`, true},
		{`[\`, false},
		{`[\*`, false},
		{"[*", true},
		{"[?", true},
		{"[]*", true},
		{"[c-a]", true},
		{"\x00\xff", false},
	} {
		if got := Has(x.pattern); got != x.want {
			t.Errorf("Has(%q): %v", x.pattern, got)
		}
	}
	for i := range 256 {
		b := string([]byte{byte(i)})
		if got := Has("a" + b + "b"); got != (i == '*' || i == '?') {
			t.Errorf("Has with byte %d: %v", i, got)
		}
		if Has(`a\` + b) {
			t.Errorf("Has with quoted byte %d", i)
		}
	}
}

func TestP401Plain(t *testing.T) {
	for _, x := range [][2]string{
		{"", ""},
		{"x", "x"},
		{`a\*b`, "a*b"},
		{`\a`, "a"},
		{`\`, `\`},
		{`a\`, `a\`},
		{`\\`, `\`},
		{`\\\`, `\\`},
		{`\\\\`, `\\`},
		{`\\a`, `\a`},
		{`\\\a`, `\a`},
		{`\.\/`, "./"},
		{"*?[a-c]", "*?[a-c]"},
		{`\[x]`, "[x]"},
		{`\[x\]`, "[x]"},
		{`[\]`, `[\]`},
		{`[\a]`, `[\a]`},
		{`[!\a]\b`, `[!\a]b`},
		{`[]\]\]`, `[]\]]`},
		{`[\a`, "[a"},
		{`[]\a`, "[]a"},
		{`[!]\a`, "[!]a"},
		{`\*[\*]\*`, `*[\*]*`},
		{"\\\n\\\x00\\\xff", "\n\x00\xff"},
	} {
		if got := Plain(x[0]); got != x[1] {
			t.Errorf("Plain(%q): %q, not %q", x[0], got, x[1])
		}
	}
	for i := range 256 {
		b := string([]byte{byte(i)})
		if got := Plain(`a\` + b + "c"); got != "a"+b+"c" {
			t.Errorf("Plain with quoted byte %d: %q", i, got)
		}
	}
}

func TestP401AllShortTexts(t *testing.T) {
	for _, p := range shortTexts(`a*?[]!^\`, 5) {
		if got, want := Has(p), plainHas(p); got != want {
			t.Errorf("Has(%q): %v", p, got)
		}
		if got, want := Plain(p), plainPlain(p); got != want {
			t.Errorf("Plain(%q): %q, not %q", p, got, want)
		}
		if !Has(p) && !Match(p, Plain(p)) {
			t.Errorf("%q does not match %q", p, Plain(p))
		}
	}
}

func TestP401TextIsNew(t *testing.T) {
	for _, given := range []string{"without a mark", `with\ a mark`, "[a-c]*", "x"} {
		given = strings.Clone(given)
		got := Plain(given)
		from, to := uintptr(unsafe.Pointer(unsafe.StringData(given))), uintptr(unsafe.Pointer(unsafe.StringData(got)))
		if from < to+uintptr(len(got)) && to < from+uintptr(len(given)) {
			t.Errorf("Plain(%q) shares its memory", given)
		}
	}
}

type trial struct {
	pattern, name string
	want          bool
}

func check(t *testing.T, l []trial) {
	t.Helper()
	for _, x := range l {
		if got := Match(x.pattern, x.name); got != x.want {
			t.Errorf("Match(%q, %q): %v", x.pattern, x.name, got)
		}
	}
}

func TestP402Bytes(t *testing.T) {
	check(t, []trial{
		{"", "", true},
		{"", "a", false},
		{"a", "", false},
		{"a", "a", true},
		{"a", "A", false},
		{"a", "aa", false},
		{"aa", "a", false},
		{"a/b", "a/b", true},
		{`a\*`, "a*", true},
		{`a\*`, "ab", false},
		{`a\*`, `a\*`, false},
		{`\?`, "?", true},
		{`\?`, "a", false},
		{`\a`, "a", true},
		{`\a`, `\a`, false},
		{`\\`, `\`, true},
		{`\\`, `\\`, false},
		{`\\*`, `\ab`, true},
		{`\`, `\`, true},
		{`\`, "", false},
		{`a\`, `a\`, true},
		{`a\`, "a", false},
		{`*\`, `ab\`, true},
		{`*\`, "ab", false},
		{"]", "]", true},
		{"a-c", "b", false},
		{"a-c", "a-c", true},
		{"!a", "!a", true},
	})
}

func TestP402StarAndAny(t *testing.T) {
	check(t, []trial{
		{"*", "", true},
		{"*", "a", true},
		{"*", "a/b\n\x00", true},
		{"**", "", true},
		{"***", "abc", true},
		{"*.c", "a.c", true},
		{"*.c", ".c", false},
		{"*.c", "a.cc", false},
		{"*.c", "a.c.c", true},
		{"*.c", "a.c.", false},
		{"a*", "a", true},
		{"a*", "ab", true},
		{"a*", "ba", false},
		{"*a", "a", true},
		{"*a", "ba", true},
		{"*a", "ab", false},
		{"a*a", "a", false},
		{"a*a", "aa", true},
		{"a*a", "aba", true},
		{"a*b", "a.b", true},
		{"*ab*ab", "abaab", true},
		{"*ab*ab", "aab", false},
		{"*aab", "aaaab", true},
		{"*aab*", "aaaabc", true},
		{"*a*b*c", "xaybzc", true},
		{"*a*b*c", "xaybz", false},
		{"**a**", "bab", true},
		{"*b*a", "ab", false},
		{"*/x", "a/x", true},
		{"?", "", false},
		{"?", "a", true},
		{"?", "ab", false},
		{"?", "\xff", true},
		{"?", "\x00", true},
		{"?", "/", true},
		{"?", "\u00e9", false},
		{"??", "\u00e9", true},
		{"a?c", "abc", true},
		{"a?c", "ac", false},
		{"*?", "", false},
		{"*?", "a", true},
		{"?*", "abc", true},
		{"?*?", "a", false},
		{"?*?", "ab", true},
		{"*?a?*", "bab", true},
		{"*?a?*", "ab", false},
	})
}

func TestP402Sets(t *testing.T) {
	check(t, []trial{
		{"[abc]", "b", true},
		{"[abc]", "d", false},
		{"[abc]", "", false},
		{"[abc]", "ab", false},
		{"[a-c]", "a", true},
		{"[a-c]", "b", true},
		{"[a-c]", "c", true},
		{"[a-c]", "d", false},
		{"[a-c]", "`", false},
		{"[a-c]", "-", false},
		{"[a-a]", "a", true},
		{"[c-a]", "a", false},
		{"[c-a]", "b", false},
		{"[c-a]", "c", false},
		{"[c-a]", "-", false},
		{"[!c-a]", "b", true},
		{"[c-ax]", "x", true},
		{"[a-cx-z]", "y", true},
		{"[a-cx-z]", "m", false},
		{"[a-c-e]", "b", true},
		{"[a-c-e]", "-", true},
		{"[a-c-e]", "e", true},
		{"[a-c-e]", "d", false},
		{"[a-]", "-", true},
		{"[a-]", "a", true},
		{"[a-]", "b", false},
		{"[-a]", "-", true},
		{"[-a]", "a", true},
		{"[-a]", "b", false},
		{"[-]", "-", true},
		{"[--]", "-", true},
		{"[---]", "-", true},
		{"[-a-c]", "b", true},
		{"[a-c-]", "-", true},
		{"[+--]", ",", true},
		{"[--/]", "/", true},
		{"[!-a]", "-", false},
		{"[!-a]", "a", false},
		{"[!-a]", "b", true},
		{"[!a-]", "-", false},
		{"[!a-c]x", "dx", true},
		{"[!a-c]x", "bx", false},
		{"[^a-c]x", "dx", true},
		{"[^a-c]x", "bx", false},
		{"[!a]", "", false},
		{"[!a]", "/", true},
		{"[!a]", "\xff", true},
		{"[!!]", "!", false},
		{"[!!]", "a", true},
		{"[!^]", "^", false},
		{"[^!]", "!", false},
		{"[a!]", "!", true},
		{"[a!]", "b", false},
		{"[a^]", "^", true},
		{"[]]", "]", true},
		{"[]]", "a", false},
		{"[]a]", "]", true},
		{"[]a]", "a", true},
		{"[]a]", "b", false},
		{"[!]]", "]", false},
		{"[!]]", "a", true},
		{"[^]a]", "a", false},
		{"[^]a]", "b", true},
		{"[]-a]", "^", true},
		{"[]-]", "-", true},
		{"[a]]", "a]", true},
		{"[a]]", "]", false},
		{"[[]", "[", true},
		{"[*]", "*", true},
		{"[*]", "a", false},
		{"[?]", "?", true},
		{"[?]", "a", false},
		{`[\]`, `\`, true},
		{`[a\]`, `\`, true},
		{`[a\]`, "]", false},
		{`[\]]`, `\]`, true},
		{`[\]]`, "]", false},
		{`[\a]`, "a", true},
		{`[\-a]`, "]", true},
		{"*[0-9]", "a12", true},
		{"*[0-9]", "12a", false},
		{"[a-z]*[0-9]?", "q.7x", true},
		{"[\x00-\xff]", "\x00", true},
		{"[\x00-\xff]", "\xff", true},
		{"[\x80-\xff]", "\x7f", false},
		{"[!\x00-\xfe]", "\xff", true},
	})
}

func TestP402SetsWithoutTheirEnd(t *testing.T) {
	check(t, []trial{
		{"[", "[", true},
		{"[", "", false},
		{"[a", "[a", true},
		{"[a", "a", false},
		{"[]", "[]", true},
		{"[]", "]", false},
		{"[!]", "[!]", true},
		{"[!]", "!", false},
		{"[!]", "a", false},
		{"[^]", "[^]", true},
		{"[!", "[!", true},
		{"[^", "[^", true},
		{"[*", "[ab", true},
		{"[?", "[a", true},
		{"[?", "[?a", false},
		{`[\*`, "[*", true},
		{`[\`, `[\`, true},
		{"[[a", "[[a", true},
		{"a]b[c", "a]b[c", true},
		{`\[a]`, "[a]", true},
		{`\[a]`, "a", false},
		{`\[[a]`, "[a", true},
		{"[a][b", "a[b", true},
		{"[]a[b", "[]a[b", true},
		{"*[", "a[[", true},
	})
}

func TestP402Dot(t *testing.T) {
	check(t, []trial{
		{".", ".", true},
		{`\.`, ".", true},
		{"*", ".", false},
		{"?", ".", false},
		{"[.]", ".", false},
		{"[!a]", ".", false},
		{"[--/]", ".", false},
		{"", ".", false},
		{"*", ".x", false},
		{"*x", ".x", false},
		{"*.x", ".x", false},
		{"**.x", ".x", false},
		{"?x", ".x", false},
		{"[.]x", ".x", false},
		{"[!a]x", ".x", false},
		{".x", ".x", true},
		{`\.x`, ".x", true},
		{`.\x`, ".x", true},
		{".*", ".x", true},
		{`\.*`, ".x", true},
		{".?", ".x", true},
		{".[x]", ".x", true},
		{".*", ".", true},
		{".*", "..", true},
		{".?", "..", true},
		{".[.]", "..", true},
		{"*.", "..", false},
		{"?.", "..", false},
		{".*", "x", false},
		{"*", "x.", true},
		{"a?", "a.", true},
		{"a[.]", "a.", true},
		{"*", "a/.x", true},
		{"*/*", "a/.x", true},
		{"[.", ".", false},
		{"[.", "[.", true},
	})
}

func TestP402AllBytes(t *testing.T) {
	for i := range 256 {
		for k := range 256 {
			a, b := string([]byte{byte(i)}), string([]byte{byte(k)})
			if got := Match(`x\`+a, "x"+b); got != (a == b) {
				t.Errorf("quoted byte %d, byte %d: %v", i, k, got)
			}
			if got := Match("x[x"+a+"]", "x"+b); a != "]" && got != (a == b || b == "x") {
				t.Errorf("set of byte %d, byte %d: %v", i, k, got)
			}
			if got, want := Match("x[!\x01-"+a+"]", "x"+b), k < 1 || k > i; a != "]" && got != want {
				t.Errorf("turned range up to byte %d, byte %d: %v", i, k, got)
			}
		}
	}
}

func TestP402AllShortTexts(t *testing.T) {
	names := shortTexts("ab.]-[", 3)
	for _, p := range shortTexts(`ab*?[]!-\.`, 4) {
		for _, n := range names {
			if got, want := Match(p, n), plainMatch(p, n); got != want {
				t.Fatalf("Match(%q, %q): %v", p, n, got)
			}
		}
	}
}

func TestP402LongerSets(t *testing.T) {
	names := shortTexts("abc-]!^", 1)
	for _, in := range shortTexts("ac-]!^", 5) {
		for _, n := range names {
			p := "[" + in + "]"
			if got, want := Match(p, n), plainMatch(p, n); got != want {
				t.Fatalf("Match(%q, %q): %v", p, n, got)
			}
		}
	}
}

func TestP402LongerStars(t *testing.T) {
	names := shortTexts("ab", 7)
	for _, p := range shortTexts("ab*?", 5) {
		for _, n := range names {
			if got, want := Match(p, n), plainMatch(p, n); got != want {
				t.Fatalf("Match(%q, %q): %v", p, n, got)
			}
		}
	}
}

// thousand tells as much of a text over and over as fits into 1,000 bytes together with ahead and behind.
func thousand(ahead, over, behind string) string {
	n := (1000 - len(ahead) - len(behind)) / len(over)
	return ahead + strings.Repeat(over, n) + behind
}

// The steps of a match are counted by the bytes that are held against a ? or a set or a byte: each is put into a set's place, which counts.
func TestP403Steps(t *testing.T) {
	const most = 4_000_000
	for _, x := range []struct {
		pattern, name string
		want          bool
	}{
		{thousand("", "*a", "b"), thousand("", "a", ""), false},
		{thousand("", "*a", "*b"), thousand("", "a", ""), false},
		{thousand("", "*", "b"), thousand("", "a", ""), false},
		{thousand("", "*?", "b"), thousand("", "a", ""), false},
		{thousand("", "**a?", "b"), thousand("", "a", ""), false},
		{thousand("", "*[ab]", "[!a]"), thousand("", "a", ""), false},
		{thousand("", "*[!b-z]a", "b"), thousand("", "a", ""), false},
		{"*" + strings.Repeat("a", 499) + "b", thousand("", "a", ""), false},
		{"*" + strings.Repeat("?", 499) + "b", thousand("", "a", ""), false},
		{"*" + strings.Repeat("[ab]", 249) + "b", thousand("", "a", ""), false},
		{"*" + strings.Repeat("[", 499) + "b", thousand("", "[", ""), false},
		{strings.Repeat("*", 500) + strings.Repeat("a", 499) + "b", thousand("", "a", ""), false},
		{thousand("[", "b", "]*c"), thousand("", "a", ""), false},
		{thousand("*[", "b", "]"), thousand("", "a", ""), false},
		{thousand("*[", "c-b", "]"), thousand("", "a", ""), false},
		{thousand("", "*ab", "*c"), thousand("", "ab", ""), false},
		{thousand("", "*a", "*"), thousand("", "a", ""), true},
		{thousand("", "*", ""), thousand("", "a", ""), true},
		{thousand("", "[", ""), thousand("", "[", ""), true},
		{thousand("", "*", ""), thousand(".", "a", ""), false},
	} {
		if got := Match(x.pattern, x.name); got != x.want {
			t.Errorf("Match(%.20q.., %.20q..): %v", x.pattern, x.name, got)
		}
		steps := 0
		l := partsOf(x.pattern)
		for i, p := range l {
			if p.kind == star {
				continue
			}
			l[i].kind = set
			l[i].has = func(b byte) bool {
				steps += len(p.text)
				return p.takes(b)
			}
		}
		l.match(x.name)
		if steps > most {
			t.Errorf("Match(%.20q.., %.20q..): %d steps", x.pattern, x.name, steps)
		}
	}
}
