package lines

import (
	"fmt"
	"math"
	"math/rand"
	"regexp"
	"slices"
	"strings"
	"testing"
	"unsafe"

	"anvil/api"
)

func TestP1301Split(t *testing.T) {
	for _, x := range []struct {
		text string
		want []string
	}{
		{"", nil},
		{"\n", []string{""}},
		{"\n\n", []string{"", ""}},
		{"\n\n\n", []string{"", "", ""}},
		{"a", []string{"a"}},
		{"a\n", []string{"a"}},
		{"a\n\n", []string{"a", ""}},
		{"\na", []string{"", "a"}},
		{"\n\na\n", []string{"", "", "a"}},
		{"a\nb", []string{"a", "b"}},
		{"a\nb\n", []string{"a", "b"}},
		{"a\n\nb", []string{"a", "", "b"}},
		{"a\n\n\nb\n\n", []string{"a", "", "", "b", ""}},
		{" a \n\tb\t\n ", []string{" a ", "\tb\t", " "}},
		{"a\\\nb", []string{"a\\", "b"}},
		{"# a\n\\#", []string{"# a", "\\#"}},
		{"a\r\nb\r", []string{"a\r", "b\r"}},
		{"a\x00\n\xff\x85\v\f\u2028b", []string{"a\x00", "\xff\x85\v\f\u2028b"}},
	} {
		if got := Split(x.text); !slices.Equal(got, x.want) {
			t.Errorf("Split(%q): %q, not %q", x.text, got, x.want)
		}
	}
	for i := range 256 {
		text := "a" + string([]byte{byte(i)}) + "b"
		want := []string{text}
		if i == 10 {
			want = []string{"a", "b"}
		}
		if got := Split(text); !slices.Equal(got, want) {
			t.Errorf("Split around byte %d: %q", i, got)
		}
	}
}

func TestP1301SplitOfManyLines(t *testing.T) {
	const n = 100000
	if got := Split(strings.Repeat("\n", n)); len(got) != n {
		t.Errorf("%d lines, not %d", len(got), n)
	}
	if got := Split(strings.Repeat("ab\n", n) + "c"); len(got) != n+1 || got[0] != "ab" || got[n-1] != "ab" || got[n] != "c" {
		t.Errorf("%d lines, not %d", len(got), n+1)
	}
}

func TestP1301LinesEndWhereTheRangeEnds(t *testing.T) {
	told := linesOf("a\nb\nc")
	for range 2 {
		var got []string
		for line := range told {
			if got = append(got, line); len(got) == 2 {
				break
			}
		}
		if !slices.Equal(got, []string{"a", "b"}) {
			t.Errorf("lines told: %q", got)
		}
	}
	n := 0
	for range joined([]string{"a\\", "b\\", "c"}) {
		n++
		break
	}
	if n != 1 {
		t.Errorf("%d lines of a logical one told", n)
	}
}

// logical is a case of Next: the line of these lines that begins at the place.
type logical struct {
	l    []string
	at   int
	want api.Line
	next int
}

func (x logical) check(t *testing.T) {
	t.Helper()
	got, next := Next(x.l, x.at)
	if got == x.want && next == x.next {
		return
	}
	if len(x.l) > 20 || len(got.Text) > 200 {
		t.Errorf("Next of %d lines, %d: kind %d, at %d, %d bytes, %d", len(x.l), x.at, got.Kind, got.At, len(got.Text), next)
		return
	}
	t.Errorf("Next(%q, %d): %s, %d, not %s, %d", x.l, x.at, shown(got), next, shown(x.want), x.next)
}

func shown(line api.Line) string {
	return fmt.Sprintf("{%d %d %q}", line.Kind, line.At, line.Text)
}

// whole is a case in which all lines make one logical line.
func whole(kind int, text string, l ...string) logical {
	return logical{l, 0, api.Line{Kind: kind, At: 1, Text: text}, len(l)}
}

// alone is a case in which the first line of l makes a logical line.
func alone(kind int, text string, l ...string) logical {
	return logical{l, 0, api.Line{Kind: kind, At: 1, Text: text}, 1}
}

func TestP1302NoPlace(t *testing.T) {
	two := []string{"a\\", "\tb"}
	for _, l := range [][]string{nil, {}, two[:0], {"a"}, {""}, two, {"\tx"}, {"# c"}} {
		for _, at := range []int{-1, -2, math.MinInt, len(l), len(l) + 1, len(l) + 7, math.MaxInt} {
			logical{l, at, api.Line{}, at}.check(t)
		}
	}
}

func TestP1302Backslashes(t *testing.T) {
	for _, x := range []logical{
		alone(api.LineOther, `a\`, `a\`),
		alone(api.LineOther, `a\\`, `a\\`),
		alone(api.LineOther, `a\\\`, `a\\\`),
		whole(api.LineOther, `a b`, `a\`, `b`),
		alone(api.LineOther, `a\\`, `a\\`, `b`),
		whole(api.LineOther, `a\\ b`, `a\\\`, `b`),
		alone(api.LineOther, `a\\\\`, `a\\\\`, `b`),
		whole(api.LineOther, `a\\\\ b`, `a\\\\\`, `b`),
		whole(api.LineOther, `a b\`, `a\`, `b\`),
		whole(api.LineOther, `a b\\`, `a\`, `b\\`),
		whole(api.LineOther, `a b\\\`, `a\`, `b\\\`),
		alone(api.LineOther, `\`, `\`),
		alone(api.LineOther, `\\`, `\\`),
		alone(api.LineOther, `\\\`, `\\\`),
		whole(api.LineOther, ` b`, `\`, `b`),
		alone(api.LineOther, `\\`, `\\`, `b`),
		whole(api.LineOther, `\\ b`, `\\\`, `b`),
		whole(api.LineOther, `a b`, `a\`, `\`, `b`),
		whole(api.LineOther, ` b`, `\`, `\`, `\`, `b`),
		whole(api.LineOther, `a \\ b`, `a\`, `\\\`, `b`),
		whole(api.LineOther, `a \\`, `a\`, `\\`),
		whole(api.LineOther, `a \`, `a\`, `\`),
		alone(api.LineOther, `a\b`, `a\b`, `c`),
		alone(api.LineOther, `a\ `, `a\ `, `c`),
		alone(api.LineOther, "a\\\t", "a\\\t", `c`),
		alone(api.LineOther, "a\\\r", "a\\\r", `c`),
		alone(api.LineRecipe, `a\`, "\ta\\"),
		alone(api.LineRecipe, `a\\`, "\ta\\\\"),
		alone(api.LineRecipe, `a\\\`, "\ta\\\\\\"),
		whole(api.LineRecipe, "a\\\nb", "\ta\\", `b`),
		alone(api.LineRecipe, `a\\`, "\ta\\\\", `b`),
		whole(api.LineRecipe, "a\\\\\\\nb", "\ta\\\\\\", `b`),
		alone(api.LineRecipe, `\`, "\t\\"),
		alone(api.LineRecipe, `\\`, "\t\\\\"),
		whole(api.LineRecipe, "\\\nb", "\t\\", `b`),
		alone(api.LineRecipe, `\\`, "\t\\\\", `b`),
		whole(api.LineRecipe, "\\\\\\\nb", "\t\\\\\\", `b`),
		whole(api.LineRecipe, "a\\\n\\\nb", "\ta\\", "\t\\", "\tb"),
		whole(api.LineRecipe, "a\\\n\\\\", "\ta\\", `\\`),
		alone(api.LineRecipe, `a\ `, "\ta\\ ", `b`),
	} {
		x.check(t)
	}
}

func TestP1302Recipes(t *testing.T) {
	for _, x := range []logical{
		alone(api.LineRecipe, "x", "\tx"),
		alone(api.LineRecipe, " x ", "\t x "),
		alone(api.LineRecipe, "\tx", "\t\tx"),
		alone(api.LineRecipe, "x", "\tx", "\ty"),
		alone(api.LineRecipe, "# x", "\t# x"),
		alone(api.LineRecipe, "x # y", "\tx # y"),
		alone(api.LineRecipe, `x \# y`, "\tx \\# y"),
		whole(api.LineRecipe, "x \\\ny", "\tx \\", "\ty"),
		whole(api.LineRecipe, "x \\\ny", "\tx \\", "y"),
		whole(api.LineRecipe, "x \\\n\ty", "\tx \\", "\t\ty"),
		whole(api.LineRecipe, "x \\\n\t\ty", "\tx \\", "\t\t\ty"),
		whole(api.LineRecipe, "x \\\n \ty", "\tx \\", " \ty"),
		whole(api.LineRecipe, "x\\\n", "\tx\\", ""),
		whole(api.LineRecipe, "x\\\n", "\tx\\", "\t"),
		whole(api.LineRecipe, "x\\\n ", "\tx\\", "\t "),
		whole(api.LineRecipe, "# x\\\ny", "\t# x\\", "\ty"),
		whole(api.LineRecipe, "x\\\n# y", "\tx\\", "\t# y"),
		whole(api.LineRecipe, "a\\\nb\\\nc\\\n\td", "\ta\\", "\tb\\", "c\\", "\t\td"),
		whole(api.LineRecipe, "\\\n", "\t\\", "\t"),
		whole(api.LineRecipe, " \\\n ", "\t \\", "\t "),
		whole(api.LineRecipe, "\t\\\n\t", "\t\t\\", "\t\t"),
		whole(api.LineRecipe, " \\\n\\\n", "\t \\", "\\", "\t"),
		alone(api.LineRecipe, " \\", "\t \\"),
		alone(api.LineBlank, "", "\t"),
		alone(api.LineBlank, "", "\t\t"),
		alone(api.LineBlank, "", "\t "),
		alone(api.LineBlank, "", "\t \t \t"),
		alone(api.LineBlank, "", "\t", "\tx"),
		alone(api.LineBlank, "", "\t", "x"),
		// Not what Split tells, but it may be handed in.
		alone(api.LineBlank, "", "\t\n"),
		alone(api.LineBlank, "", "\t \n\t"),
		alone(api.LineRecipe, "\nx", "\t\nx"),
	} {
		x.check(t)
	}
}

func TestP1302Others(t *testing.T) {
	for _, x := range []logical{
		alone(api.LineOther, "a", "a"),
		alone(api.LineOther, " a ", " a "),
		alone(api.LineOther, " \ta", " \ta"),
		alone(api.LineOther, "a\t", "a\t", "b"),
		alone(api.LineOther, "a: b ; c # d", "a: b ; c # d"),
		whole(api.LineOther, "a b", `a \`, "  b"),
		whole(api.LineOther, "a b", "a \t \\", "\t \tb"),
		whole(api.LineOther, "a b", `a\`, "\tb"),
		whole(api.LineOther, " a b ", ` a \`, " b "),
		whole(api.LineOther, "a  b c", `a  b  \`, "c"),
		whole(api.LineOther, "a ", `a \`, ""),
		whole(api.LineOther, "a ", `a \`, " \t "),
		whole(api.LineOther, "a b", `a \`, `  \`, "  b"),
		whole(api.LineOther, "a b", `a \`, ` \`, `\`, "\t\\", " b"),
		whole(api.LineOther, "a ", `a \`, ` \`, " "),
		whole(api.LineOther, " b", `  \`, "  b"),
		whole(api.LineOther, " b", ` \`, ` \`, "b"),
		whole(api.LineOther, `a\ b`, `a\ \`, "b"),
		whole(api.LineOther, "a\r b", "a\r\\", "b"),
		whole(api.LineOther, "a \v b", `a\`, "\v \\", "b"),
		alone(api.LineBlank, "", ""),
		alone(api.LineBlank, "", " "),
		alone(api.LineBlank, "", " \t "),
		alone(api.LineBlank, "", "", "a"),
		whole(api.LineBlank, "", `\`, ""),
		whole(api.LineBlank, "", ` \`, "\t"),
		whole(api.LineBlank, "", `\`, `\`, `\`, " "),
		alone(api.LineBlank, "", "#"),
		alone(api.LineBlank, "", "# x"),
		alone(api.LineBlank, "", " \t# x"),
		alone(api.LineBlank, "", "##"),
		alone(api.LineBlank, "", `# x\`),
		alone(api.LineBlank, "", `# x\\`, "b"),
		whole(api.LineBlank, "", `# a \`, "b"),
		whole(api.LineBlank, "", `# a\`, `b\`, "c"),
		whole(api.LineBlank, "", `\`, "# b"),
		whole(api.LineBlank, "", ` \`, "\t# b"),
		// Not what Split tells, but it may be handed in.
		alone(api.LineBlank, "", "\n"),
		alone(api.LineBlank, "", " \n# x"),
		alone(api.LineOther, "\n\ta", "\n\ta"),
		whole(api.LineOther, "a b", "a\n\\", "\nb"),
	} {
		x.check(t)
	}
}

func TestP1302HashesBehindBackslashes(t *testing.T) {
	for _, x := range []logical{
		alone(api.LineOther, `\#`, `\#`),
		alone(api.LineOther, ` \# x`, ` \# x`),
		alone(api.LineOther, `\\#`, `\\#`),
		alone(api.LineOther, `\\\#`, `\\\#`),
		alone(api.LineOther, `a\#b # c`, `a\#b # c`),
		// The lines' own \ goes where they are joined: a byte 32 stands ahead of the #.
		whole(api.LineBlank, "", `\`, "#x"),
		alone(api.LineOther, `\\`, `\\`, "#x"),
		whole(api.LineOther, `\\ #x`, `\\\`, "#x"),
		whole(api.LineOther, `a #x`, `a\`, "#x"),
		whole(api.LineOther, ` \#x`, `\`, `\#x`),
		whole(api.LineOther, ` \\#x`, `\`, `\\#x`),
		whole(api.LineOther, ` \\\#x`, `\`, `\\\#x`),
		whole(api.LineOther, `\# x`, `\#\`, "x"),
		whole(api.LineBlank, "", `#\`, `\#`),
		whole(api.LineBlank, "", `#\\\`, `a`),
		alone(api.LineBlank, "", `#\\`, `a`),
	} {
		x.check(t)
	}
}

func TestP1302At(t *testing.T) {
	l := []string{"a \\", "  b", "", "\tx \\", "\ty", "# c \\", " d", "\t", "e\\"}
	var got []api.Line
	var places []int
	for at := 0; at < len(l); {
		line, next := Next(l, at)
		got, places = append(got, line), append(places, next)
		if next <= at {
			t.Fatalf("at %d the place behind is %d", at, next)
		}
		at = next
	}
	want := []api.Line{
		{Kind: api.LineOther, At: 1, Text: "a b"},
		{Kind: api.LineBlank, At: 3},
		{Kind: api.LineRecipe, At: 4, Text: "x \\\ny"},
		{Kind: api.LineBlank, At: 6},
		{Kind: api.LineBlank, At: 8},
		{Kind: api.LineOther, At: 9, Text: "e\\"},
	}
	if !slices.Equal(got, want) || !slices.Equal(places, []int{2, 3, 5, 7, 8, 9}) {
		t.Errorf("%+v, %v", got, places)
	}
	// What stands ahead of the place counts for nothing, not even if it goes on.
	logical{l, 1, api.Line{Kind: api.LineOther, At: 2, Text: "  b"}, 2}.check(t)
	logical{l, 4, api.Line{Kind: api.LineRecipe, At: 5, Text: "y"}, 5}.check(t)
	logical{l, 6, api.Line{Kind: api.LineOther, At: 7, Text: " d"}, 7}.check(t)
}

func TestP1302BlanksAreThreeBytes(t *testing.T) {
	for i := range 256 {
		c := string([]byte{byte(i)})
		if i == 32 || i == 9 || i == 10 {
			alone(api.LineBlank, "", "\t"+c).check(t)
			alone(api.LineBlank, "", " "+c).check(t)
			whole(api.LineOther, "a b", "a"+c+"\\", c+"b").check(t)
			continue
		}
		alone(api.LineRecipe, c, "\t"+c).check(t)
		if c != "\\" && c != "#" {
			alone(api.LineOther, c, c).check(t)
			whole(api.LineOther, "a"+c+" "+c+"b", "a"+c+"\\", c+"b").check(t)
		}
	}
}

func TestP1302ManyLines(t *testing.T) {
	const n = 100000
	others := slices.Repeat([]string{"\ta \\"}, n)
	others[0] = "a \\"
	whole(api.LineOther, strings.Repeat("a ", n-1)+"a \\", others...).check(t)
	others[n-1] = "b"
	whole(api.LineOther, strings.Repeat("a ", n-1)+"b", others...).check(t)
	recipes := slices.Repeat([]string{"\ta\\"}, n)
	whole(api.LineRecipe, strings.Repeat("a\\\n", n-1)+"a\\", recipes...).check(t)
	whole(api.LineOther, " \\", slices.Repeat([]string{"\\"}, n)...).check(t)
	wide := strings.Repeat(" ", n)
	whole(api.LineOther, "a b", "a"+wide+"\\", wide+"\\", wide+"b").check(t)
	even := strings.Repeat("\\", n)
	alone(api.LineOther, "a"+even, "a"+even, "b").check(t)
	whole(api.LineOther, "a"+even+" b", "a"+even+"\\", "b").check(t)
}

func TestP1303Bare(t *testing.T) {
	for _, x := range [][2]string{
		{``, ``},
		{`a`, `a`},
		{` a `, ` a `},
		{`a\b\\c\`, `a\b\\c\`},
		{`\`, `\`},
		{`\\`, `\\`},
		{`#`, ``},
		{`# a`, ``},
		{`a#`, `a`},
		{`a #`, `a `},
		{`a # b # c`, `a `},
		{`##`, ``},
		{`\#`, `#`},
		{`a\#`, `a#`},
		{`\\#`, `\\`},
		{`\\\#`, `\\#`},
		{`\\\\#`, `\\\\`},
		{`\\\\\#`, `\\\\#`},
		{`a\#b # c`, `a#b `},
		{`a\\#b`, `a\\`},
		{`a\\\#b`, `a\\#b`},
		{`\#\##`, `##`},
		{`\#\#`, `##`},
		{`\##\#`, `#`},
		{`#\#`, ``},
		{`a#\`, `a`},
		{`\#\\#`, `#\\`},
		{`\#\\\#\`, `#\\#\`},
		{`a\ #b`, `a\ `},
		{`a\b#c`, `a\b`},
		{"a\\\n#b", "a\\\n"},
		{"\t\\#\n# x\ny", "\t#\n"},
		{"\xff\\#\x00#", "\xff#\x00"},
		{"\u00e9\\#\u00e9#", "\u00e9#\u00e9"},
	} {
		if got := Bare(x[0]); got != x[1] {
			t.Errorf("Bare(%q): %q, not %q", x[0], got, x[1])
		}
	}
	for i := range 256 {
		c := string([]byte{byte(i)})
		want := "a" + c
		if c == "\\" {
			want = "a#b"
		} else if c == "#" {
			want = "a"
		}
		if got := Bare("a" + c + "#b"); got != want {
			t.Errorf("Bare with byte %d ahead of the #: %q", i, got)
		}
	}
}

func TestP1303BareOfLongTexts(t *testing.T) {
	const n = 200000
	even := strings.Repeat("\\", n)
	for _, x := range [][2]string{
		{strings.Repeat("\\#", n), strings.Repeat("#", n)},
		{even + "#", even},
		{even + "\\#", even + "#"},
		{strings.Repeat("a", n) + "#" + even, strings.Repeat("a", n)},
		{strings.Repeat("#", n), ""},
	} {
		if got := Bare(x[0]); got != x[1] {
			t.Errorf("Bare of %d bytes: %d bytes, not %d", len(x[0]), len(got), len(x[1]))
		}
	}
}

// texts tells all texts of at most most bytes of these.
func texts(bytes string, most int) []string {
	l := []string{""}
	for at := 0; at < len(l); at++ {
		if s := l[at]; len(s) < most {
			for i := range len(bytes) {
				l = append(l, s+bytes[i:i+1])
			}
		}
	}
	return l
}

// plainBare says P1303 once more, pair by pair from the left.
func plainBare(s string) string {
	var b strings.Builder
	for i := 0; i < len(s); i++ {
		switch {
		case strings.HasPrefix(s[i:], `\\`):
			b.WriteString(`\\`)
			i++
		case strings.HasPrefix(s[i:], `\#`):
			b.WriteByte('#')
			i++
		case s[i] == '#':
			return b.String()
		default:
			b.WriteByte(s[i])
		}
	}
	return b.String()
}

// plain says P1302 once more, over one text in which a byte 0 stands between the lines: so no line may have one.
type plain struct{ goesOn, join, blank *regexp.Regexp }

func newPlain() plain {
	return plain{
		regexp.MustCompile(`^([^\x00\\]|\\[^\x00\\]|\\\\|\\\x00)*`),
		regexp.MustCompile(`[ \t\n]*\\\x00[ \t\n]*`),
		regexp.MustCompile(`^[ \t\n]*$`),
	}
}

func (p plain) next(l []string, at int) (api.Line, int) {
	if at < 0 || at >= len(l) {
		return api.Line{}, at
	}
	rest := strings.Join(l[at:], "\x00")
	text := p.goesOn.FindString(rest)
	// A \ that has nothing behind it, at the end of the last line, has no pair.
	if rest[len(text):] == `\` {
		text = rest
	}
	next := at + strings.Count(text, "\x00") + 1
	kind, seen := api.LineOther, ""
	if text != "" && text[0] == 9 {
		kind = api.LineRecipe
		text = strings.ReplaceAll(text[1:], "\x00\t", "\n")
		text = strings.ReplaceAll(text, "\x00", "\n")
		seen = text
	} else {
		for in := p.join.FindStringIndex(text); in != nil; in = p.join.FindStringIndex(text) {
			text = text[:in[0]] + " " + text[in[1]:]
		}
		seen = plainBare(text)
	}
	if p.blank.MatchString(seen) {
		return api.Line{At: at + 1}, next
	}
	return api.Line{Kind: kind, At: at + 1, Text: text}, next
}

func (p plain) check(t *testing.T, l ...string) {
	t.Helper()
	for at := range len(l) + 1 {
		line, next := p.next(l, at)
		logical{l, at, line, next}.check(t)
	}
}

func TestP1301AllShortTexts(t *testing.T) {
	for _, s := range texts("a\n\\\t", 6) {
		want := strings.Split(s, "\n")
		if want[len(want)-1] == "" {
			want = want[:len(want)-1]
		}
		if got := Split(s); !slices.Equal(got, want) {
			t.Errorf("Split(%q): %q, not %q", s, got, want)
		}
	}
}

func TestP1302AllShortLines(t *testing.T) {
	p := newPlain()
	for _, a := range texts("a\t \\#", 5) {
		p.check(t, a)
	}
	three := texts("a\t \\#", 3)
	for _, a := range three {
		for _, b := range three {
			p.check(t, a, b)
		}
	}
	two := texts("\t \\#", 2)
	for _, a := range two {
		for _, b := range two {
			for _, c := range two {
				p.check(t, a, b, c)
			}
		}
	}
	one := texts("\t \\#", 1)
	for _, a := range one {
		for _, b := range one {
			for _, c := range one {
				for _, d := range one {
					p.check(t, "a\\", a+"\\", b+"\\", c, d)
					p.check(t, "\t\\", a+"\\", b+"\\", c, d)
				}
			}
		}
	}
}

func TestP1302GrownLines(t *testing.T) {
	p := newPlain()
	r := rand.New(rand.NewSource(13))
	pieces := []string{"a", "b:", " ", "\t", "\\", "\\\\", "#", "\\#", "\n", "\r", "\xff"}
	for range 20000 {
		l := make([]string, r.Intn(8))
		for i := range l {
			for range r.Intn(5) {
				l[i] += pieces[r.Intn(len(pieces))]
			}
			if r.Intn(2) > 0 {
				l[i] += "\\"
			}
		}
		p.check(t, l...)
	}
}

func TestP1303AllShortTexts(t *testing.T) {
	for _, s := range texts("a\\#\n", 8) {
		if got, want := Bare(s), plainBare(s); got != want {
			t.Errorf("Bare(%q): %q, not %q", s, got, want)
		}
	}
}

func TestP1304HandedInStands(t *testing.T) {
	for at := -1; at < 6; at++ {
		room := []string{"a \\", " b\\", "\tx\\", "\ty\\", "spare", "room"}
		was := slices.Clone(room)
		Next(room[:4], at)
		if !slices.Equal(room, was) {
			t.Errorf("at %d: handed in %q, then %q", at, was, room)
		}
	}
}

func TestP1304SpareRoomIsNoLine(t *testing.T) {
	room := []string{"a\\", "\tb\\", "spare"}
	logical{room[:1], 0, api.Line{Kind: api.LineOther, At: 1, Text: "a\\"}, 1}.check(t)
	logical{room[:2], 1, api.Line{Kind: api.LineRecipe, At: 2, Text: "b\\"}, 2}.check(t)
	logical{room[:1], 1, api.Line{}, 1}.check(t)
}

// over is a text and the bytes that it stands in, which can be written over.
func over(s string) (string, []byte) {
	b := []byte(s)
	return unsafe.String(unsafe.SliceData(b), len(b)), b
}

func spoil(b []byte) {
	for i := range b {
		b[i] = '?'
	}
}

func TestP1304TextsAreNew(t *testing.T) {
	for _, s := range []string{"a", "a\n", "a\nb\n\nc\\", " x # y", "\\#", "a\\#b # c", "lone line"} {
		given, bytes := over(s)
		split, bare := Split(given), Bare(given)
		wantSplit, wantBare := Split(strings.Clone(s)), Bare(strings.Clone(s))
		spoil(bytes)
		if !slices.Equal(split, wantSplit) || bare != wantBare {
			t.Errorf("of %q, written over: %q and %q", s, split, bare)
		}
	}
	for _, l := range [][]string{{"a"}, {"\ta"}, {"a\\", "b"}, {"a \\", "\t b\\", "c"}, {"\tx\\", "\ty"}, {"\t\tx\\", "y\\", "z"}, {"# c"}, {"a # c"}} {
		room := make([]string, len(l))
		bytes := make([][]byte, len(l))
		for i, s := range l {
			room[i], bytes[i] = over(s)
		}
		got, _ := Next(room, 0)
		for i := range l {
			spoil(bytes[i])
			room[i] = "?"
		}
		if want, _ := Next(l, 0); got != want {
			t.Errorf("of %q, written over: %s", l, shown(got))
		}
	}
}

func TestP1304AnswersAreTheirOwn(t *testing.T) {
	one, two := Split("a\nb\n"), Split("a\nb\n")
	one[0] = "x"
	_ = append(one[:1], "y")
	if !slices.Equal(two, []string{"a", "b"}) || !slices.Equal(Split("a\nb\n"), two) {
		t.Errorf("two answers of Split share memory: %q", two)
	}
	l := []string{"a\\", "b"}
	first, _ := Next(l, 0)
	first.Text, first.At = "x", 9
	whole(api.LineOther, "a b", l...).check(t)
}

func TestCallsFromManySides(t *testing.T) {
	done := make(chan bool)
	l := []string{"a \\", " b # c", "\tx\\", "\ty"}
	for range 8 {
		go func() {
			line, next := Next(l, 0)
			recipe, end := Next(l, next)
			done <- line.Text == "a b # c" && recipe.Text == "x\\\ny" && end == 4 && Bare(line.Text) == "a b "
		}()
	}
	for range 8 {
		if !<-done {
			t.Error("another answer beside others")
		}
	}
}
