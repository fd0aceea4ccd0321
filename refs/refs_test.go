package refs

import (
	"fmt"
	"math/rand"
	"regexp"
	"slices"
	"strconv"
	"strings"
	"testing"
	"unsafe"

	"anvil/api"
)

// theBounds are the names and bounds as the chapter writes them.
const theBounds = "abspath 1 1, addprefix 2 2, addsuffix 2 2, and 1 -1, basename 1 1, call 1 -1, dir 1 1, error 1 1, eval 1 1, filter 2 2, filter-out 2 2, findstring 2 2, firstword 1 1, flavor 1 1, foreach 3 3, if 2 3, info 1 1, join 2 2, lastword 1 1, notdir 1 1, or 1 -1, origin 1 1, patsubst 3 3, shell 1 1, sort 1 1, strip 1 1, subst 3 3, suffix 1 1, value 1 1, warning 1 1, wildcard 1 1, word 2 2, wordlist 3 3, words 1 1"

type named struct {
	name        string
	least, most int
}

// all tells what the chapter says of each function, in its order.
func all() []named {
	var l []named
	for _, row := range strings.Split(theBounds, ", ") {
		var n named
		if _, err := fmt.Sscan(row, &n.name, &n.least, &n.most); err != nil {
			panic(err)
		}
		l = append(l, n)
	}
	return l
}

func names() []string {
	var l []string
	for _, n := range all() {
		l = append(l, n.name)
	}
	return l
}

func bytesOf(s string) api.Part { return api.Part{Kind: 1, Text: s} }

func of(name string) api.Part { return api.Part{Kind: 2, Text: name} }

func call(name string, args ...string) api.Part { return api.Part{Kind: 3, Name: name, Args: args} }

func samePart(a, b api.Part) bool {
	return a.Kind == b.Kind && a.Text == b.Text && a.Name == b.Name && slices.Equal(a.Args, b.Args)
}

func shown(l []api.Part) string {
	s := fmt.Sprintf("%d:", len(l))
	for _, p := range l {
		s += fmt.Sprintf(" {%d %q %q %q}", p.Kind, p.Text, p.Name, p.Args)
	}
	return short200(s)
}

func short200(s string) string {
	if len(s) > 200 {
		return s[:200] + ".."
	}
	return s
}

func wantParts(t *testing.T, s string, want ...api.Part) {
	t.Helper()
	if got, e := Parse(s); e != api.OK || !slices.EqualFunc(got, want, samePart) {
		t.Errorf("Parse(%q): %s, %d, not %s", short200(s), shown(got), int(e), shown(want))
	}
}

func wantNoEnd(t *testing.T, s string) {
	t.Helper()
	if got, e := Parse(s); e != api.ErrRef || len(got) != 0 {
		t.Errorf("Parse(%q): %s, %d, not ErrRef", short200(s), shown(got), int(e))
	}
}

func wantPlace(t *testing.T, s, stops string, want int) {
	t.Helper()
	if got := Scan(s, stops); got != want {
		t.Errorf("Scan(%q, %q): %d, not %d", short200(s), short200(stops), got, want)
	}
}

func TestTheChaptersExamples(t *testing.T) {
	wantParts(t, "a$$b$x", bytesOf("a$b"), of("x"))
	wantParts(t, "$", bytesOf("$"))
	wantParts(t, "$(subst a,b,c,d)", call("subst", "a", "b", "c,d"))
	wantParts(t, "$(subst)", of("subst"))
	wantParts(t, "${x:(=)}", of("x:(=)"))
	wantParts(t, "$(if $(a),b)", call("if", "$(a)", "b"))
	wantNoEnd(t, "$(x")
	wantPlace(t, "a$(b=c)=d", "=:", 7)
}

func TestP1501Bytes(t *testing.T) {
	wantParts(t, "")
	for _, s := range []string{"a", " ", "a b\tc\nd", "(", ")", "}{", "(a,b)", "subst a,b,c", "\x00\xff\xc3", "\u20ac", "\\", "a:=b", strings.Repeat("xy ", 100000)} {
		wantParts(t, s, bytesOf(s))
	}
	for i := range 256 {
		s := string([]byte{byte(i)})
		wantParts(t, s, bytesOf(s))
		if i != '$' {
			wantParts(t, "a"+s+"b", bytesOf("a"+s+"b"))
		}
	}
}

func TestP1501Dollars(t *testing.T) {
	for s, want := range map[string]string{
		"$$": "$", "$$$": "$$", "$$$$": "$$", "$$$$$": "$$$", "$$$$$$": "$$$",
		"$$a": "$a", "a$$": "a$", "a$$b": "a$b", "$$a$$": "$a$", "a$$$$b": "a$$b", "a$": "a$", "a b$": "a b$", "a$$$": "a$$",
		"$$(a)": "$(a)", "$${a}": "${a}", "$$(": "$(", "$$ $$": "$ $", "$$)$$}": "$)$}", "$$(subst a,b,c)$$": "$(subst a,b,c)$",
	} {
		wantParts(t, s, bytesOf(want))
	}
	wantParts(t, "$$$a", bytesOf("$"), of("a"))
	wantParts(t, "$a$$", of("a"), bytesOf("$"))
	wantParts(t, "$a$$$b", of("a"), bytesOf("$"), of("b"))
	wantParts(t, "$$$(a)$$", bytesOf("$"), of("a"), bytesOf("$"))
	wantParts(t, "$$$$(a", bytesOf("$$(a"))
	wantNoEnd(t, "$$$$$(a")
	wantParts(t, "$a$", of("a"), bytesOf("$"))
	wantParts(t, "$(a)$", of("a"), bytesOf("$"))
	wantParts(t, strings.Repeat("$$", 100000), bytesOf(strings.Repeat("$", 100000)))
	wantParts(t, strings.Repeat("a$$", 50000)+"$x", bytesOf(strings.Repeat("a$", 50000)), of("x"))
}

func TestP1501EachByteBehindADollar(t *testing.T) {
	for i := range 256 {
		c := string([]byte{byte(i)})
		switch c {
		case "$":
			wantParts(t, "a$$b", bytesOf("a$b"))
		case "(", "{":
			wantNoEnd(t, "$"+c)
			wantNoEnd(t, "a$"+c+"b")
		default:
			wantParts(t, "$"+c, of(c))
			wantParts(t, "a$"+c+"b", bytesOf("a"), of(c), bytesOf("b"))
			wantParts(t, "$"+c+"$"+c+c, of(c), of(c), bytesOf(c))
		}
	}
	wantParts(t, "$ a", of(" "), bytesOf("a"))
	wantParts(t, "$)$}", of(")"), of("}"))
	wantParts(t, "$)a)", of(")"), bytesOf("a)"))
	wantParts(t, "$\u20ac", of("\xe2"), bytesOf("\x82\xac"))
	wantParts(t, "$ab$cd", of("a"), bytesOf("b"), of("c"), bytesOf("d"))
	wantParts(t, "$@$<$^", of("@"), of("<"), of("^"))
}

func TestP1501LongReferences(t *testing.T) {
	for s, want := range map[string]string{
		"$()": "", "${}": "", "$( )": " ", "${\t}": "\t", "$(a)": "a", "${a}": "a", "$(ab c)": "ab c", "${a b}": "a b",
		"$(())": "()", "${{}}": "{}", "$(a(b)c)": "a(b)c", "${a{b}c}": "a{b}c", "$((a)(b))": "(a)(b)", "${{a}{b}}": "{a}{b}", "$(((a)))": "((a))", "${{{a}}}": "{{a}}",
		"$({)": "{", "$(})": "}", "$({})": "{}", "$(}{)": "}{", "${(}": "(", "${)}": ")", "${()}": "()", "${)(}": ")(",
		"$(a{b)": "a{b", "${a(b}": "a(b", "$({()})": "{()}", "${({})}": "({})", "$(({)})": "({)}", "${{(})}": "{(})",
		"$($)": "$", "$($$)": "$$", "${$}": "$", "$($(a))": "$(a)", "$(${a})": "${a}", "${$(a)}": "$(a)", "${${a}}": "${a}", "$(a$(b)c$(d)e)": "a$(b)c$(d)e", "$(${)": "${", "${$(}": "$(",
		"$(a,b)": "a,b", "$(a, b)": "a, b", "$(a:b=c)": "a:b=c", "$(a\nb)": "a\nb", "$(\x00\xff)": "\x00\xff", "$($$(a))": "$$(a)",
	} {
		wantParts(t, s, of(want))
	}
	wantParts(t, "$(a)$b${c}", of("a"), of("b"), of("c"))
	wantParts(t, "x$(a)y${b}z", bytesOf("x"), of("a"), bytesOf("y"), of("b"), bytesOf("z"))
	wantParts(t, "$(a))", of("a"), bytesOf(")"))
	wantParts(t, "${a}}", of("a"), bytesOf("}"))
	wantParts(t, "$(a}b)c", of("a}b"), bytesOf("c"))
	wantParts(t, "$()$()", of(""), of(""))
	wantParts(t, "${a(b}c)", of("a(b"), bytesOf("c)"))
	wantParts(t, "(a$(b)c)", bytesOf("(a"), of("b"), bytesOf("c)"))
	wantParts(t, "(a)$(b)", bytesOf("(a)"), of("b"))
	wantParts(t, "${$({}})}", of("$({}"), bytesOf(")}")) // the ( is a byte like any
}

func TestP1501NoEnd(t *testing.T) {
	for _, s := range []string{
		"$(", "${", "$(a", "${a", "$(}", "${)", "$(a}", "${a)", "$( ", "$($", "$(a$", "$($$",
		"$(()", "${{}", "$(a(b)", "${a{b}", "$((a)", "$(()()", "$(a(b(c))", "$($(a)", "$(${a}", "${$(a)", "${${a}",
		"x$(", "x${", "a$$$(", "$a$(b", "$(a)$(b", "$(a)${b)", "${a}$(b}", "$(a) b $(c", "$()$(", "$$$(a",
		"$(subst a,b,c", "${subst a,b,c)", "$(subst a,(b,c)", "$(if ", "$(or (a)", "$(a) $(subst ${x}",
	} {
		wantNoEnd(t, s)
	}
	wantNoEnd(t, strings.Repeat("$(a)", 10000)+"$(")
	wantNoEnd(t, "$("+strings.Repeat("(", 100000)+strings.Repeat(")", 100000))
}

func TestP1501Deep(t *testing.T) {
	const deep = 1 << 16
	for _, b := range []string{"()", "{}"} {
		inside := strings.Repeat("$"+b[:1], deep) + "x" + strings.Repeat(b[1:], deep)
		wantParts(t, "$"+b[:1]+inside+b[1:], of(inside))
		wantNoEnd(t, "$"+b[:1]+inside)
		inside = strings.Repeat(b[:1], deep) + "," + strings.Repeat(b[1:], deep)
		wantParts(t, "$"+b[:1]+"or a,"+inside+",b"+b[1:], call("or", "a", inside, "b"))
		wantPlace(t, "$"+b[:1]+inside+b[1:]+",", ",", len(inside)+3)
	}
	both := strings.Repeat("({", deep) + "," + strings.Repeat("})", deep)
	wantParts(t, "$(and "+both+","+both+")", call("and", both, both))
}

func TestP1501EachFunction(t *testing.T) {
	for _, n := range all() {
		for _, b := range []string{" ", "\t", "\n", "  ", "\t\t", "\n\n", " \t\n ", "\n \t"} {
			wantParts(t, "$("+n.name+b+"x)", call(n.name, "x"))
			wantParts(t, "${"+n.name+b+"x}", call(n.name, "x"))
			wantParts(t, "$("+n.name+b+")", call(n.name, ""))
			wantParts(t, "${"+n.name+b+"}", call(n.name, ""))
			wantParts(t, "$("+b+n.name+b+"x)", of(b+n.name+b+"x"))
			wantParts(t, n.name+b+"x", bytesOf(n.name+b+"x"))
		}
		for _, s := range []string{n.name, n.name + ",a", n.name + ":a b", n.name + "(a b)", n.name + "$ a", n.name + "x a", "x" + n.name + " a", strings.ToUpper(n.name) + " a", n.name[1:] + " a", "$" + n.name + " a"} {
			wantParts(t, "$("+s+")", of(s))
			wantParts(t, "a${"+s+"}b", bytesOf("a"), of(s), bytesOf("b"))
		}
		wantParts(t, "a$("+n.name+" b)c${"+n.name+"\td}", bytesOf("a"), call(n.name, "b"), bytesOf("c"), call(n.name, "d"))
	}
}

func TestP1501OnlyBlanksEndAName(t *testing.T) {
	for i := range 256 {
		c := string([]byte{byte(i)})
		want := of("word" + c + "x")
		switch c {
		case " ", "\t", "\n":
			want = call("word", "x")
		case "(", ")":
			continue // these change where it ends
		}
		wantParts(t, "$(word"+c+"x)", want)
	}
	wantParts(t, "$(word\r x)", of("word\r x"))
	wantParts(t, "$(word \r\vx)", call("word", "\r\vx"))
	wantParts(t, "$(word\u00a0x)", of("word\u00a0x"))
}

func TestP1501NamesOfOthers(t *testing.T) {
	for s, want := range map[string]api.Part{
		"filter a,b": call("filter", "a", "b"), "filter-out a,b": call("filter-out", "a", "b"), "filter -out a,b": call("filter", "-out a", "b"), "filter- a,b": of("filter- a,b"), "filter-o a": of("filter-o a"), "filter-out-x a": of("filter-out-x a"),
		"word 1,a b,c": call("word", "1", "a b,c"), "words 1,a b,c": call("words", "1,a b,c"), "wordlist 1,2,a,b": call("wordlist", "1", "2", "a,b"), "wordl a": of("wordl a"), "wordlists a": of("wordlists a"), "word s a": call("word", "s a"), "wordlis 1": of("wordlis 1"),
		"if a,b": call("if", "a", "b"), "info a,b": call("info", "a,b"), "inf a,b": of("inf a,b"), "i f a": of("i f a"), "ifo a": of("ifo a"),
		"dir a,b": call("dir", "a,b"), "dirs a,b": of("dirs a,b"), "notdir a,b": call("notdir", "a,b"), "di a": of("di a"),
		"or a,b": call("or", "a", "b"), "origin a,b": call("origin", "a,b"), "orig a,b": of("orig a,b"), "o a": of("o a"),
		"subst a,b,c": call("subst", "a", "b", "c"), "patsubst a,b,c": call("patsubst", "a", "b", "c"), "sub a": of("sub a"),
		"suffix a,b": call("suffix", "a,b"), "addsuffix a,b,c": call("addsuffix", "a", "b,c"), "addprefix a,b,c": call("addprefix", "a", "b,c"), "add a": of("add a"), "prefix a": of("prefix a"),
		"firstword a": call("firstword", "a"), "lastword a": call("lastword", "a"), "first a": of("first a"), "foreach a,b,c": call("foreach", "a", "b", "c"), "for a": of("for a"),
		"foo a,b": of("foo a,b"), "realpath a": of("realpath a"), "file a": of("file a"), "let a,b,c": of("let a,b,c"), "intcmp a,b": of("intcmp a,b"), "guile a": of("guile a"), "notfound a": of("notfound a"), "IF a,b": of("IF a,b"),
		" ": of(" "), " if a": of(" if a"), "\tor a": of("\tor a"), "$(x)if a,b": of("$(x)if a,b"), ",if a": of(",if a"),
	} {
		wantParts(t, "$("+s+")", want)
		wantParts(t, "${"+s+"}", want)
	}
}

func TestP1501AsManyArgumentsAsBoundsTell(t *testing.T) {
	for _, n := range all() {
		for count := 1; count <= 7; count++ {
			var l []string
			for i := range count {
				l = append(l, strconv.Itoa(i))
			}
			inside := n.name + " " + strings.Join(l, ",")
			want := l
			if n.most > 0 && count > n.most {
				want = append(slices.Clone(l[:n.most-1]), strings.Join(l[n.most-1:], ","))
			}
			wantParts(t, "$("+inside+")", call(n.name, want...))
			wantParts(t, "x${"+inside+"}", bytesOf("x"), call(n.name, want...))
		}
	}
	many := strings.Repeat("a,", 100000)
	l, e := Parse("$(call " + many + ")")
	if e != api.OK || len(l) != 1 || len(l[0].Args) != 100001 || l[0].Args[0] != "a" || l[0].Args[99999] != "a" || l[0].Args[100000] != "" {
		t.Errorf("many arguments: %d parts, %d", len(l), int(e))
	}
	wantParts(t, "$(if "+many+")", call("if", "a", "a", many[4:]))
}

func TestP1501EmptyArguments(t *testing.T) {
	for s, want := range map[string]api.Part{
		"or ": call("or", ""), "or ,": call("or", "", ""), "or ,,": call("or", "", "", ""), "or a,": call("or", "a", ""), "or ,a": call("or", "", "a"), "or a,,b": call("or", "a", "", "b"),
		"if ,": call("if", "", ""), "if ,,": call("if", "", "", ""), "if ,,,": call("if", "", "", ","), "if a,,b": call("if", "a", "", "b"), "if ,a,b": call("if", "", "a", "b"),
		"subst ,,": call("subst", "", "", ""), "subst ,": call("subst", "", ""), "subst ": call("subst", ""), "subst ,,,,": call("subst", "", "", ",,"),
		"words ": call("words", ""), "words ,": call("words", ","), "words ,,": call("words", ",,"),
	} {
		wantParts(t, "$("+s+")", want)
		wantParts(t, "${"+s+"}", want)
	}
}

func TestP1501BlanksOfArguments(t *testing.T) {
	for s, want := range map[string]api.Part{
		"subst a, b ,c ":        call("subst", "a", " b ", "c "),
		"subst  \t a b,\tc,\nd": call("subst", "a b", "\tc", "\nd"),
		"or  , ":                call("or", "", " "),
		"or \n":                 call("or", ""),
		"or  a  ":               call("or", "a  "),
		"words  a  b ":          call("words", "a  b "),
	} {
		wantParts(t, "$("+s+")", want)
		wantParts(t, "${"+s+"}", want)
	}
}

func TestP1501CommasWithinBrackets(t *testing.T) {
	for s, want := range map[string][]string{
		"(a,b)": {"(a,b)"}, "{a,b}": {"{a,b}"}, "a,(b,c),d": {"a", "(b,c)", "d"}, "a,{b,c},d": {"a", "{b,c}", "d"}, "f,(a,b),{c,d},e": {"f", "(a,b)", "{c,d}", "e"},
		"({a,b},c),d": {"({a,b},c)", "d"}, "{(a,b),c},d": {"{(a,b),c}", "d"}, "((a,b),c),d": {"((a,b),c)", "d"}, "{{a,b},c},d": {"{{a,b},c}", "d"},
		"$(a,b),c": {"$(a,b)", "c"}, "${a,b},c": {"${a,b}", "c"}, "$(if a,${b,c}),d": {"$(if a,${b,c})", "d"}, "$,a": {"$", "a"}, "$$,a": {"$$", "a"},
		"x(a,b)y,z": {"x(a,b)y", "z"}, "(),a": {"()", "a"}, "{},a": {"{}", "a"}, "()(,)": {"()(,)"}, "(,),(,)": {"(,)", "(,)"},
	} {
		wantParts(t, "$(or "+s+")", call("or", want...))
		wantParts(t, "${or "+s+"}", call("or", want...))
	}
}

func TestP1501BracketsThatDoNotMatch(t *testing.T) {
	for s, want := range map[string][]string{
		"$(or a,})": {"a", "}"}, "$(or },a)": {"}", "a"}, "$(or }},a})": {"}}", "a}"}, "$(or {a,b)": {"{a,b"}, "$(or {,{,},)": {"{,{,},"}, "$(or a,{b,c)": {"a", "{b,c"}, "$(or }{,})": {"}{,}"}, "$(or ({,),a)": {"({,),a"}, "$(or (}),a)": {"(})", "a"}, "$(or {(},a),b},c)": {"{(},a),b}", "c"},
		"${or a,)b,c}": {"a", ")b", "c"}, "${or ),a}": {")", "a"}, "${or a,(b,c}": {"a", "(b,c"}, "${or )(,)}": {")(,)"}, "${or {(,},a}": {"{(,},a"}, "${or {)},a}": {"{)}", "a"}, "${or ((,),)}": {"((,),)"}, "${or (),),a}": {"()", ")", "a"}, "${or ({),a},b),c}": {"({),a},b)", "c"},
	} {
		wantParts(t, s, call("or", want...))
	}
	wantParts(t, "${if a,(b,c}", call("if", "a", "(b,c"))
	wantParts(t, "$(or ),a)", call("or", ""), bytesOf(",a)"))
	wantParts(t, "$(if (a,b),c,d,(e,f),g)", call("if", "(a,b)", "c", "d,(e,f),g"))
}

func TestP1501VariablesAsTheyStand(t *testing.T) {
	for _, s := range []string{"a b", "a,b", " a ", "a$b", "a$(b)c", "a${b}c", "$(a)$(b)", "a:.c=.o", "a:%.c=$(d)/%.o", "a $(subst x,y,z)", "$$", "a$", "(a,b),c", "subst", "substa,b,c", "x subst a"} {
		wantParts(t, "$("+s+")", of(s))
		wantParts(t, "${"+s+"}", of(s))
		wantParts(t, "<$("+s+")>${"+s+"}", bytesOf("<"), of(s), bytesOf(">"), of(s))
	}
}

func TestP1502Funcs(t *testing.T) {
	want := names()
	if len(want) != 34 || !slices.IsSorted(want) {
		t.Fatalf("the chapter's names: %d", len(want))
	}
	for range 2 {
		if got := Funcs(); !slices.Equal(got, want) {
			t.Errorf("Funcs: %q, not %q", got, want)
		}
	}
}

func TestP1502Bounds(t *testing.T) {
	for _, n := range all() {
		if least, most := Bounds(n.name); least != n.least || most != n.most {
			t.Errorf("Bounds(%q): %d, %d, not %d, %d", n.name, least, most, n.least, n.most)
		}
	}
	for _, name := range append(others(), "", " ", "$", "foo", "realpath", "file", "let", "filter-", "wordlists", "o", "i", "\x00", "\xff", strings.Repeat("x", 100000)) {
		if least, most := Bounds(name); least != 0 || most != 0 {
			t.Errorf("Bounds(%q): %d, %d, not 0, 0", short200(name), least, most)
		}
	}
}

// others are names that are near to those of functions, and none of them.
func others() []string {
	var l []string
	for _, name := range names() {
		for _, near := range []string{name + " ", " " + name, name + "x", name + "\x00", strings.ToUpper(name), name[1:], name[:len(name)-1], name + name, name + " a"} {
			if !slices.Contains(names(), near) {
				l = append(l, near)
			}
		}
	}
	return l
}

// place is a case of Scan.
type place struct {
	s, stops string
	at       int
}

func TestP1503Scan(t *testing.T) {
	for _, x := range []place{
		{"", "", -1}, {"", "=", -1}, {"a", "", -1}, {"a", "b", -1}, {"a", "a", 0}, {"ba", "a", 1}, {"aa", "a", 0}, {"a=b=c", "=", 1}, {"a b", " ", 1}, {"a\tb", " \t", 1},
		{"a=b:c", "=:", 1}, {"a:b=c", "=:", 1}, {"a:b=c", ":=", 1}, {"a;b", "=:;", 1}, {"abc", "cb", 1}, {"aab", "bbb", 2},
		{"$(a=b)", "=", -1}, {"${a=b}", "=", -1}, {"$(a=b)=", "=", 6}, {"${a=b}=", "=", 6}, {"x$(a=b)y=z", "=", 8}, {"$(a)=$(b)=", "=", 4}, {"$(a=)$(b=)${c=}=", "=", 15}, {"=$(a=)", "=", 0},
		{"$(a(=)=)=", "=", 8}, {"$(a(=))=", "=", 7}, {"${a{=}=}=", "=", 8}, {"${a(}=", "=", 5}, {"$(a{)=", "=", 5}, {"$($(=)=)=", "=", 8}, {"$(${=)=", "=", 6}, {"${$(=}=", "=", 6},
		{"$a=", "=", 2}, {"$ab=", "=", 3}, {"$==", "=", 2}, {"$=", "=", -1}, {"$=a", "=", -1}, {"a$=b=", "=", 4}, {"$a", "a", -1}, {"$aa", "a", 2},
		{"$$=", "=", 2}, {"$$$=", "=", -1}, {"$$$==", "=", 4}, {"$$$$=", "=", 4}, {"$$(=)", "=", 3}, {"$$$(=)=", "=", 6},
	} {
		wantPlace(t, x.s, x.stops, x.at)
	}
}

func TestP1503NoEnd(t *testing.T) {
	for _, x := range []place{
		{"$(a=", "=", -1}, {"${a=", "=", -1}, {"$(", "=(", -1}, {"${", "{", -1}, {"$(a(=)=", "=", -1}, {"$(a}=", "=}", -1}, {"${a)=", "=)", -1}, {"x=$(a=", "=", 1}, {"$(a)$(b=", "=", -1}, {"$(a)=$(b=", "=", 4}, {"$$(=", "=", 3}, {"$(a=b$(c)=", "=", -1}, {"a$", "=", -1}, {"a=$", "=", 1},
	} {
		wantPlace(t, x.s, x.stops, x.at)
	}
	// What a part without its end holds is not looked at, though Parse tells an error of it.
	wantPlace(t, "a=$(b", "=", 1)
}

func TestP1503Dollars(t *testing.T) {
	for _, x := range []place{
		{"$", "$", -1}, {"$$", "$", -1}, {"$$$", "$", -1}, {"a$", "$", -1}, {"$a", "$", -1}, {"$(a)", "$", -1}, {"a$$b$", "$", -1}, {"$$=", "$=", 2}, {"$=", "$=", -1}, {"$=", "=$", -1}, {"$a$=", "$a", -1}, {"$aa", "$a", 2}, {"$$a", "a$", 2}, {"$($)$", "$", -1}, {"$", "$$", -1},
	} {
		wantPlace(t, x.s, x.stops, x.at)
	}
}

func TestP1503Brackets(t *testing.T) {
	for _, x := range []place{
		{"(", "(", 0}, {"a(b)", "(", 1}, {"a(b)", ")", 3}, {"a{b}", "{", 1}, {"a{b}", "}", 3}, {"$(a)", "(", -1}, {"$(a)", ")", -1}, {"$(a)", "()", -1}, {"${a}", "{}", -1}, {"$(a)(", "(", 4}, {"$(a))", ")", 4}, {"${a}}", "}", 4}, {"$(a(b)c)(", "(", 8}, {"$$(", "(", 2}, {"$${", "{", 2}, {"$$(a)", ")", 4}, {"$)", ")", -1}, {"$))", ")", 2}, {"$}}", "}", 2}, {"$(a})", "}", -1}, {"$(a})}", "}", 5}, {"${a)})", ")", 5}, {"(=)", "=", 1}, {"{=}", "=", 1}, {"(a", "=", -1},
	} {
		wantPlace(t, x.s, x.stops, x.at)
	}
}

func TestP1503EachByte(t *testing.T) {
	every := make([]byte, 256)
	for i := range every {
		every[i] = byte(i)
	}
	for i := range 256 {
		c := string([]byte{byte(i)})
		want := 2
		if c == "$" {
			want = -1
		}
		wantPlace(t, "$$"+c, c, want)
		wantPlace(t, "$$"+c, string(every), want)
		wantPlace(t, c, strings.ReplaceAll(string(every), c, ""), -1)
		wantPlace(t, "$"+c, c, -1)
		wantPlace(t, "$("+c, c, -1)
		wantPlace(t, "${"+c, string(every), -1)
	}
	// Texts are bytes: half of a letter is a stop, too.
	wantPlace(t, "a\u20ac", "\xac", 3)
	wantPlace(t, "a\xe2", "\u20ac", 1)
	wantPlace(t, "\xff", "\ufffd", -1)
	wantPlace(t, "\ufffd", "\xff", -1)
}

func TestP1503LongTexts(t *testing.T) {
	const n = 1 << 20
	wantPlace(t, strings.Repeat("a", n)+"=", strings.Repeat("=", n), n)
	wantPlace(t, strings.Repeat("$(=)", n)+"=", strings.Repeat("=b", n), 4*n)
	wantPlace(t, strings.Repeat("$=", n), "=", -1)
	wantPlace(t, "$("+strings.Repeat("(=", n), "=", -1)
}

// plainEnd tells the least place behind from where as many ends as beginnings of the bracket at from have been, behind that place; -1, if there is none.
func plainEnd(s string, from int) int {
	open, end := s[from:from+1], ")"
	if open == "{" {
		end = "}"
	}
	for i := from + 1; i <= len(s); i++ {
		if strings.Count(s[from:i], open) == strings.Count(s[from:i], end) {
			return i
		}
	}
	return -1
}

var (
	noBracket   = regexp.MustCompile(`[^(){}]`)
	firstClosed = regexp.MustCompile(`^([({]*?)(\(\)|\{\}|[)}])`)
)

// plainOutside tells whether nothing is open behind s: what is closed is taken away from the left, until nothing closes.
func plainOutside(s string) bool {
	s = noBracket.ReplaceAllString(s, "")
	for firstClosed.MatchString(s) {
		s = firstClosed.ReplaceAllString(s, "$1")
	}
	return s == ""
}

func plainArguments(s string, most int) []string {
	l := []string{""}
	for i := range len(s) {
		last := len(l) - 1
		if s[i] == ',' && plainOutside(s[:i]) && (most < 0 || len(l) < most) {
			l = append(l, "")
			continue
		}
		l[last] += s[i : i+1]
	}
	return l
}

// plain is a second telling of the chapter, by other means.
type plain struct {
	function *regexp.Regexp
	most     map[string]int
}

func newPlain() plain {
	p := plain{most: map[string]int{}}
	var l []string
	for _, n := range all() {
		p.most[n.name] = n.most
		l = append(l, regexp.QuoteMeta(n.name))
	}
	p.function = regexp.MustCompile(`(?s)^(` + strings.Join(l, "|") + `)[ \t\n]+(.*)$`)
	p.function.Longest()
	return p
}

func (p plain) inside(s string) api.Part {
	m := p.function.FindStringSubmatch(s)
	if m == nil {
		return of(s)
	}
	behind := strings.TrimLeft(m[2], " \t\n")
	return call(m[1], plainArguments(behind, p.most[m[1]])...)
}

func (p plain) parse(s string) ([]api.Part, api.Errno) {
	switch {
	case s == "":
		return nil, api.OK
	case s == "$":
		return []api.Part{bytesOf("$")}, api.OK
	case s[0] != '$':
		return p.behind(bytesOf(s[:1]), s[1:])
	case s[1] == '$':
		return p.behind(bytesOf("$"), s[2:])
	case s[1] != '(' && s[1] != '{':
		return p.behind(of(s[1:2]), s[2:])
	}
	end := plainEnd(s, 1)
	if end < 0 {
		return nil, api.ErrRef
	}
	return p.behind(p.inside(s[2:end-1]), s[end:])
}

// behind tells a part and those of what stands behind it.
func (p plain) behind(first api.Part, rest string) ([]api.Part, api.Errno) {
	l, e := p.parse(rest)
	if e != api.OK {
		return nil, e
	}
	if len(l) > 0 && first.Kind == 1 && l[0].Kind == 1 {
		l[0].Text = first.Text + l[0].Text
		return l, api.OK
	}
	return append([]api.Part{first}, l...), api.OK
}

// plainScan lays a byte that is no stop over all that does not count, and looks for a stop then.
func plainScan(s, stops string) int {
	b := []byte(s)
	for i := 0; i < len(b); {
		end := i + 1
		if s[i] == '$' {
			end = min(i+2, len(s))
			if end == i+2 && (s[i+1] == '(' || s[i+1] == '{') {
				if end = plainEnd(s, i+1); end < 0 {
					end = len(s)
				}
			}
			copy(b[i:end], strings.Repeat("$", end-i))
		}
		i = end
	}
	for i := range b {
		if b[i] != '$' && strings.IndexByte(stops, b[i]) >= 0 {
			return i
		}
	}
	return -1
}

func (p plain) check(t *testing.T, s string) {
	t.Helper()
	got, e := Parse(s)
	want, we := p.parse(s)
	if e != we || !slices.EqualFunc(got, want, samePart) {
		t.Errorf("Parse(%q): %s, %d, not %s, %d", s, shown(got), int(e), shown(want), int(we))
	}
}

// texts tells all texts of these bytes with at most so many of them.
func texts(of string, most int) []string {
	l := []string{""}
	for from := 0; most > 0; most-- {
		to := len(l)
		for _, s := range l[from:to] {
			for i := range len(of) {
				l = append(l, s+of[i:i+1])
			}
		}
		from = to
	}
	return l
}

func TestP1501AllShortTexts(t *testing.T) {
	p := newPlain()
	for _, s := range texts("$(){}a,", 6) {
		p.check(t, s)
	}
	for _, s := range texts("(){}a,", 5) {
		p.check(t, "$(or "+s+")")
		p.check(t, "${if "+s+"}")
	}
}

func TestP1503AllShortTexts(t *testing.T) {
	for _, s := range texts("$(){}=", 6) {
		for _, stops := range []string{"=", "(}", "$)=", "{"} {
			wantPlace(t, s, stops, plainScan(s, stops))
		}
	}
}

func TestP1501AndP1503GrownTexts(t *testing.T) {
	p := newPlain()
	r := rand.New(rand.NewSource(15))
	pieces := append(names(), "$", "$$", "$(", "${", "$(", "${", "(", ")", ")", "{", "}", "}", ",", ",", ", ", " ", "\t", "\n", "a", "=", ":", "\xff", "$x", "$(if ", "${or ", "$(subst\t", "$(call  ")
	for range 60000 {
		var b strings.Builder
		for range r.Intn(16) {
			b.WriteString(pieces[r.Intn(len(pieces))])
		}
		s := b.String()
		p.check(t, s)
		for _, stops := range []string{"=:", ", )", "$a", ""} {
			wantPlace(t, s, stops, plainScan(s, stops))
		}
	}
}

// over is a text and the bytes that it stands in, which can be written over.
func over(s string) (string, []byte) {
	b := []byte(s)
	return unsafe.String(unsafe.SliceData(b), len(b)), b
}

func spoil(b []byte) {
	for i := range b {
		b[i] = '?'
	}
}

func TestP1504TextsAreNew(t *testing.T) {
	for _, s := range []string{"a", "a$$b", "$x", "$(a)", "${a b}", "$(if a,b,c,d)", "$(words x)", "${or a,(b,c),$(d)}", "a$b$(c)${call d,e}f$"} {
		given, bytes := over(s)
		got, _ := Parse(given)
		spoil(bytes)
		if want, _ := Parse(s); !slices.EqualFunc(got, want, samePart) {
			t.Errorf("of %q, written over: %s", s, shown(got))
		}
	}
}

func TestP1504HandedInStands(t *testing.T) {
	s, stops := "a$(if b,(c,d))=$$", "=$"
	given, bytes := over(s)
	ends, endBytes := over(stops)
	Parse(given)
	Scan(given, ends)
	Bounds(given)
	if string(bytes) != s || string(endBytes) != stops {
		t.Errorf("handed in %q and %q, then %q and %q", s, stops, bytes, endBytes)
	}
}

func TestP1504AnswersAreTheirOwn(t *testing.T) {
	const s = "a$(or b,c)${or d,e}$x"
	want := []api.Part{bytesOf("a"), call("or", "b", "c"), call("or", "d", "e"), of("x")}
	one, _ := Parse(s)
	two, _ := Parse(s)
	_ = append(one[1].Args, "more")
	if !samePart(one[2], want[2]) {
		t.Errorf("lists of one answer share memory: %s", shown(one))
	}
	for i := range one {
		for j := range one[i].Args {
			one[i].Args[j] = "?"
		}
		one[i] = api.Part{Kind: 9, Text: "?", Name: "?"}
	}
	_ = append(one[:1], bytesOf("?"))
	if !slices.EqualFunc(two, want, samePart) {
		t.Errorf("answers share memory: %s", shown(two))
	}
	wantParts(t, s, want...)

	l := Funcs()
	for i := range l {
		l[i] = "?"
	}
	_ = append(l[:1], "?")
	if !slices.Equal(Funcs(), names()) {
		t.Errorf("Funcs, written over: %q", Funcs())
	}
	wantParts(t, "$(if a,b)", call("if", "a", "b"))
	if least, most := Bounds("if"); least != 2 || most != 3 {
		t.Errorf("Bounds behind Funcs, written over: %d, %d", least, most)
	}
}

func TestP1504NothingIsKept(t *testing.T) {
	calls := []string{"$(or a,b", "$(a)", "$", "${if (a,b", "x$$y", "${x", "$(if {,a)"}
	first := map[string]string{}
	for range 3 {
		for _, s := range calls {
			l, e := Parse(s)
			told := shown(l) + strconv.Itoa(int(e)) + "/" + strconv.Itoa(Scan(s, "a"))
			if first[s] == "" {
				first[s] = told
			}
			if first[s] != told {
				t.Errorf("of %q first %s, then %s", s, first[s], told)
			}
		}
		slices.Reverse(calls)
	}
}

func TestCallsFromManySides(t *testing.T) {
	done := make(chan bool)
	for range 8 {
		go func() {
			l, e := Parse("a$(if b,(c,d))")
			least, most := Bounds("if")
			done <- e == api.OK && slices.EqualFunc(l, []api.Part{bytesOf("a"), call("if", "b", "(c,d)")}, samePart) &&
				Scan("$(a=)=", "=") == 5 && least == 2 && most == 3 && slices.Equal(Funcs(), names())
		}()
	}
	for range 8 {
		if !<-done {
			t.Error("another answer beside others")
		}
	}
}
