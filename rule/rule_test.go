package rule

import (
	"errors"
	"fmt"
	"math/rand"
	"slices"
	"strings"
	"testing"
	"unsafe"

	"anvil/api"
)

func cutShort(s string) string {
	if len(s) > 200 {
		return s[:200] + ".."
	}
	return s
}

func wantHead(t *testing.T, line string, want api.Head) {
	t.Helper()
	if got := Take(line); got != want {
		t.Errorf("Take(%q): %s, not %s", cutShort(line), cutShort(fmt.Sprintf("%+v", got)), cutShort(fmt.Sprintf("%+v", want)))
	}
}

// none, sets, is and aims are the heads of the four kinds.
func none(line string) api.Head { return api.Head{Left: line} }

func sets(left string, set int, right string) api.Head {
	return api.Head{Kind: 1, Left: left, Set: set, Right: right}
}

func is(left, right string) api.Head { return api.Head{Kind: 2, Left: left, Right: right} }

func aims(left, name string, set int, right string) api.Head {
	return api.Head{Kind: 3, Left: left, Name: name, Set: set, Right: right}
}

func doubled(h api.Head) api.Head {
	h.Double = true
	return h
}

func doing(h api.Head, recipe string) api.Head {
	h.Has, h.Recipe = true, recipe
	return h
}

func TestTheChaptersExamples(t *testing.T) {
	wantHead(t, "a = b = c", sets("a", api.SetRecursive, "b = c"))
	wantHead(t, "a += x", sets("a", api.SetAppend, "x"))
	wantHead(t, "a ::= $(b:c=d)", sets("a", api.SetSimple, "$(b:c=d)"))
	wantHead(t, "x y : z ; echo a;b", doing(is("x y ", " z "), "echo a;b"))
	wantHead(t, "x:: y", doubled(is("x", " y")))
	wantHead(t, "$(a:b)", none("$(a:b)"))
	wantHead(t, "x: v = 1", aims("x", "v", api.SetRecursive, "1"))
	wantHead(t, "x: v := $@", aims("x", "v", api.SetSimple, "$@"))
	wantRule(t, "a.o b.o", "%.o : %.c | d", false, api.Rule{Targets: words("a.o b.o"), Static: "%.o", Prereqs: words("%.c"), Orders: words("d")})
	wantWrong(t, "%.o x", "", api.ErrMixed)
	wantGroup(t, words("a(x y z)"), words("a(x) a(y) a(z)"))
}

func TestP1701NoSeparator(t *testing.T) {
	for _, s := range []string{
		"", " ", "\t\n", "a", " a ", "a b", "a;b", "a + b", "a+", "?", "!", "$", "$$", "a$", "include x", "endif", "%", "a(b)",
		"$(a:b)", "$(a=b)", "${a:=b}", "$(a:b=c) $(d::e)", "$=", "$:", "a$=b$:c", "$(a", "$(a:=b", "${a=b)", "$(a}=:", "$($(a:b)=c)", "${a{b}=:}", "$((a)=b:c)",
		"\x00\xff", "\u20ac", strings.Repeat("a ", 100000), strings.Repeat("$(=:)", 50000),
	} {
		wantHead(t, s, none(s))
	}
	for i := range 256 {
		if c := string([]byte{byte(i)}); c != "=" && c != ":" {
			wantHead(t, c, none(c))
			wantHead(t, "a"+c+"b", none("a"+c+"b"))
		}
	}
}

// theSeparators are those that set a variable, as they stand in a line.
func theSeparators() map[string]int {
	return map[string]int{
		"=": api.SetRecursive, ":=": api.SetSimple, "::=": api.SetSimple,
		"+=": api.SetAppend, "?=": api.SetDefault, "!=": api.SetShell,
	}
}

func TestP1701EachAssignment(t *testing.T) {
	for by, set := range theSeparators() {
		for _, gap := range []string{"", " ", "\t", "\n", " \t\n "} {
			wantHead(t, "a"+gap+by+gap+"b", sets("a", set, "b"))
			wantHead(t, gap+"a b"+gap+by+gap+"c d", sets("a b", set, "c d"))
			wantHead(t, gap+by+gap+"b", sets("", set, "b"))
			wantHead(t, "a"+gap+by+gap, sets("a", set, ""))
			wantHead(t, gap+by+gap, sets("", set, ""))
			wantHead(t, "a"+by+gap+"b"+gap, sets("a", set, "b"+gap))
		}
		wantHead(t, "$(a:b=c)"+by+"$(d=e:f)", sets("$(a:b=c)", set, "$(d=e:f)"))
		wantHead(t, "${a=b} $= $:"+by+" $", sets("${a=b} $= $:", set, "$"))
		wantHead(t, "a"+by+"b=c", sets("a", set, "b=c"))
		wantHead(t, "a"+by+"b:c", sets("a", set, "b:c"))
		wantHead(t, "a"+by+"b;c", sets("a", set, "b;c"))
		wantHead(t, "a"+by+"b:=c;d", sets("a", set, "b:=c;d"))
		wantHead(t, "a;b"+by+"c", sets("a;b", set, "c"))
		wantHead(t, "a"+by+"=b", sets("a", set, "=b"))
		wantHead(t, "a"+by+":b", sets("a", set, ":b"))
		wantHead(t, "a"+by+"$(b", sets("a", set, "$(b"))
		wantHead(t, "export a"+by+"# b", sets("export a", set, "# b"))
		wantHead(t, "\x80\xff"+by+"\x00", sets("\x80\xff", set, "\x00"))
	}
}

func TestP1701WhatStandsAtLeftsEnd(t *testing.T) {
	// Blanks may part it from its =, and only the last one counts.
	wantHead(t, "a + = b", sets("a", api.SetAppend, "b"))
	wantHead(t, "a \t?\n= b", sets("a", api.SetDefault, "b"))
	wantHead(t, "a  !  =", sets("a", api.SetShell, ""))
	wantHead(t, "++=a", sets("+", api.SetAppend, "a"))
	wantHead(t, "a+ +=b", sets("a+", api.SetAppend, "b"))
	wantHead(t, "a+?=b", sets("a+", api.SetDefault, "b"))
	wantHead(t, "a?!=b", sets("a?", api.SetShell, "b"))
	wantHead(t, "a!+=b", sets("a!", api.SetAppend, "b"))
	wantHead(t, "+a=b", sets("+a", api.SetRecursive, "b"))
	wantHead(t, "a = +", sets("a", api.SetRecursive, "+"))
	wantHead(t, "a =+= b", sets("a", api.SetRecursive, "+= b"))
	// := and ::= have their kind already.
	wantHead(t, "a+:=b", sets("a+", api.SetSimple, "b"))
	wantHead(t, "a ? := b", sets("a ?", api.SetSimple, "b"))
	wantHead(t, "!::=", sets("!", api.SetSimple, ""))
	// It is a byte like any within a reference, but what stands at Left's end is told by its last byte alone.
	wantHead(t, "$(a+)=b", sets("$(a+)", api.SetRecursive, "b"))
	wantHead(t, "$(a)+=b", sets("$(a)", api.SetAppend, "b"))
	wantHead(t, "$$+=b", sets("$$", api.SetAppend, "b"))
	wantHead(t, "a$+=b", sets("a$", api.SetAppend, "b"))
	for i := range 256 {
		switch c := string([]byte{byte(i)}); c {
		case "+", "?", "!", "=", ":", " ", "\t", "\n":
		default:
			wantHead(t, "a"+c+"=b", sets("a"+c, api.SetRecursive, "b"))
		case "$":
			wantHead(t, "a$=b", none("a$=b"))
		}
	}
}

func TestP1701BlanksAreThree(t *testing.T) {
	for i := range 256 {
		c := string([]byte{byte(i)})
		if strings.Contains(" \t\n", c) {
			wantHead(t, c+"a"+c+"="+c+"b"+c, sets("a", api.SetRecursive, "b"+c))
			wantHead(t, c+"a"+c+":"+c+"b"+c+";"+c+"d"+c, doing(is(c+"a"+c, c+"b"+c), "d"+c))
		} else if !strings.Contains("+?!=:;$", c) {
			wantHead(t, c+"a"+c+"="+c+"b"+c, sets(c+"a"+c, api.SetRecursive, c+"b"+c))
			wantHead(t, c+"a"+c+":"+c+"b"+c+";"+c+"d"+c, doing(is(c+"a"+c, c+"b"+c), c+"d"+c))
		}
	}
}

func TestP1701Rules(t *testing.T) {
	for line, want := range map[string]api.Head{
		"x:y":            is("x", "y"),
		"x y : z w ":     is("x y ", " z w "),
		" x:":            is(" x", ""),
		":":              is("", ""),
		":x":             is("", "x"),
		" : ":            is(" ", " "),
		"x::":            doubled(is("x", "")),
		"::":             doubled(is("", "")),
		"::y":            doubled(is("", "y")),
		"x :: y":         doubled(is("x ", " y")),
		"x: :y":          is("x", " :y"),
		"x : : y":        is("x ", " : y"),
		"x:::y":          doubled(is("x", ":y")),
		"x::::":          doubled(is("x", "::")),
		"x: %.o: %.c":    is("x", " %.o: %.c"),
		"x:: %.o: %.c":   doubled(is("x", " %.o: %.c")),
		"x: %.o:: %.c":   is("x", " %.o:: %.c"),
		"x: y | z":       is("x", " y | z"),
		"a;b:c":          is("a;b", "c"),
		"$(a:b):$(c=d)":  is("$(a:b)", "$(c=d)"),
		"$(a=b)::$(c:d)": doubled(is("$(a=b)", "$(c:d)")),
		"$::x":           is("$:", "x"),
		"$:::x":          doubled(is("$:", "x")),
		"x:$=y":          is("x", "$=y"),
		"x:$(a=b":        is("x", "$(a=b"),
		"lib(a b):c":     is("lib(a b)", "c"),
		"C:\\x: y":       is("C", "\\x: y"),
	} {
		wantHead(t, line, want)
	}
}

func TestP1701Recipes(t *testing.T) {
	for line, want := range map[string]api.Head{
		"x:;":                doing(is("x", ""), ""),
		"x: ; ":              doing(is("x", " "), ""),
		"x:y;z":              doing(is("x", "y"), "z"),
		"x: y ; \t\n z ":     doing(is("x", " y "), "z "),
		"x::y;z":             doubled(doing(is("x", "y"), "z")),
		"::;":                doubled(doing(is("", ""), "")),
		":;a":                doing(is("", ""), "a"),
		"x:;;":               doing(is("x", ""), ";"),
		"x: y ; a ; b;":      doing(is("x", " y "), "a ; b;"),
		"x: $(a;b) ; c":      doing(is("x", " $(a;b) "), "c"),
		"x: ${a;b}$; ; c":    doing(is("x", " ${a;b}$; "), "c"),
		"x: $(a;b":           is("x", " $(a;b"),
		"x: $;":              is("x", " $;"),
		"x: $$;y":            doing(is("x", " $$"), "y"),
		"x: y ; a=b":         doing(is("x", " y "), "a=b"),
		"x: y ; a:=b":        doing(is("x", " y "), "a:=b"),
		"x: y ; a:b":         doing(is("x", " y "), "a:b"),
		"x:;a=b":             doing(is("x", ""), "a=b"),
		"x:;=":               doing(is("x", ""), "="),
		"x:;:=":              doing(is("x", ""), ":="),
		"x: v; = 1":          doing(is("x", " v"), "= 1"),
		"x: %.o: %.c ; a":    doing(is("x", " %.o: %.c "), "a"),
		"x: %.o: %.c ; a=b":  doing(is("x", " %.o: %.c "), "a=b"),
		"x: y ; $(a;b) $(c":  doing(is("x", " y "), "$(a;b) $(c"),
		"x: y ; echo $$a;$@": doing(is("x", " y "), "echo $$a;$@"),
	} {
		wantHead(t, line, want)
	}
}

func TestP1701TargetsVariables(t *testing.T) {
	for by, set := range theSeparators() {
		for _, gap := range []string{"", " ", "\t\n"} {
			wantHead(t, "x: v"+gap+by+gap+"1", aims("x", "v", set, "1"))
			wantHead(t, "x y :"+gap+"v w"+gap+by+gap+"1 "+gap, aims("x y ", "v w", set, "1 "+gap))
			wantHead(t, "x:: "+gap+"v"+by+gap, doubled(aims("x", "v", set, "")))
			wantHead(t, "x: "+gap+by+gap, aims("x", "", set, ""))
		}
		wantHead(t, ": v"+by+"1", aims("", "v", set, "1"))
		wantHead(t, "%.o: v"+by+"1", aims("%.o", "v", set, "1"))
		wantHead(t, "x: override v"+by+"1", aims("x", "override v", set, "1"))
		wantHead(t, "x: v"+by+"1 ; 2", aims("x", "v", set, "1 ; 2"))
		wantHead(t, "x: v"+by+";", aims("x", "v", set, ";"))
		wantHead(t, "x: v"+by+"y:z=w", aims("x", "v", set, "y:z=w"))
		wantHead(t, "x: v"+by+":w", aims("x", "v", set, ":w"))
		wantHead(t, "$(x:y=z): $(v;=:)$;"+by+"$(w", aims("$(x:y=z)", "$(v;=:)$;", set, "$(w"))
		// A recipe, or a : of another kind, comes first: the = is no separator.
		wantHead(t, "x: v;"+by+"1", doing(is("x", " v"), by+"1"))
		wantHead(t, "x: v : w"+by+"1", is("x", " v : w"+by+"1"))
		wantHead(t, "x: v:: w"+by+"1", is("x", " v:: w"+by+"1"))
		wantHead(t, "x:: v:w"+by+"1;2", doubled(doing(is("x", " v:w"+by+"1"), "2")))
	}
	wantHead(t, "x:v=1", aims("x", "v", api.SetRecursive, "1"))
	wantHead(t, "x::v=1", doubled(aims("x", "v", api.SetRecursive, "1")))
	wantHead(t, "x: = 1", aims("x", "", api.SetRecursive, "1"))
	wantHead(t, "x: := 1", aims("x", "", api.SetSimple, "1"))
	wantHead(t, "x:::=1", doubled(aims("x", "", api.SetSimple, "1")))
	wantHead(t, "x::::=1", doubled(aims("x", "", api.SetSimple, "1")))
	wantHead(t, "x: v + = 1", aims("x", "v", api.SetAppend, "1"))
	wantHead(t, "x: $(v", is("x", " $(v"))
	wantHead(t, "x: $v$=1", is("x", " $v$=1"))
}

func TestP1701LongLines(t *testing.T) {
	many := strings.Repeat("a:", 500000)
	wantHead(t, many, is("a", many[2:]))
	wantHead(t, "a=b"+many, sets("a", api.SetRecursive, "b"+many))
	many = strings.Repeat(" ", 1000000)
	wantHead(t, many+"a"+many+"+"+many+"="+many+"b"+many, sets("a", api.SetAppend, "b"+many))
	many = strings.Repeat("$(", 60000) + ":=;" + strings.Repeat(")", 60000)
	wantHead(t, many+":"+many+";"+many, doing(is(many, many), many))
	wantHead(t, many+"="+many, sets(many, api.SetRecursive, many))
}

func TestP1702Name(t *testing.T) {
	for w, want := range map[string]string{
		"": ".", ".": ".", "./": ".", ".//": ".", "././": ".", ".//.///": ".", "./.": ".",
		"a": "a", "./a": "a", ".//a": "a", ".///a": "a", "././a": "a", ".//.//a": "a", "./././././a/": "a/",
		"..": "..", "../a": "../a", "./..": "..", "./../a": "../a", "./.a": ".a", ".a": ".a", ".a/b": ".a/b", "...": "...", ".../a": ".../a",
		"/": "/", "/a": "/a", "//a": "//a", "/./a": "/./a", "a/./b": "a/./b", "a/.": "a/.", "a./b": "a./b", "./a/./b": "a/./b", "./a//b": "a//b",
		"./%.o": "%.o", "./l(./x)": "l(./x)", "./|": "|", "./ a": " a", " ./a": " ./a", "./\xff": "\xff",
	} {
		if got := Name(w); got != want {
			t.Errorf("Name(%q): %q, not %q", w, got, want)
		}
	}
	for i := range 256 {
		c := string([]byte{byte(i)})
		if c != "/" {
			if got := Name("./" + c); got != c {
				t.Errorf("Name(%q): %q", "./"+c, got)
			}
			if got, want := Name(c+"./a"), c+"./a"; got != want {
				t.Errorf("Name(%q): %q", want, got)
			}
		}
	}
	if got := Name(strings.Repeat("./", 500000) + "a"); got != "a" {
		t.Errorf("of many: %q", cutShort(got))
	}
	if got := Name("." + strings.Repeat("/", 1000000)); got != "." {
		t.Errorf("of many slashes: %q", cutShort(got))
	}
}

// words cuts at single spaces, so that words that are empty can be said, too.
func words(s string) []string { return strings.Split(s, " ") }

func wantGroup(t *testing.T, given, want []string) {
	t.Helper()
	if got := Group(given); !slices.Equal(got, want) {
		t.Errorf("Group(%q): %q, not %q", given, got, want)
	}
}

func TestP1702Group(t *testing.T) {
	wantGroup(t, nil, nil)
	wantGroup(t, []string{}, nil)
	for given, want := range map[string]string{
		"a":                     "a",
		"a b a":                 "a b a",
		"a(x)":                  "a(x)",
		"a(x) b(y)":             "a(x) b(y)",
		"a()":                   "a()",
		"a(x y)":                "a(x) a(y)",
		"a(x y z)":              "a(x) a(y) a(z)",
		"a(x y x)":              "a(x) a(y) a(x)",
		"a( x y )":              "a(x) a(y)",
		"a( x)":                 "a(x)",
		"a(x )":                 "a(x)",
		"a( x )":                "a(x)",
		"b a(x y) c":            "b a(x) a(y) c",
		"a(x y) b(z w)":         "a(x) a(y) b(z) b(w)",
		"a(x y) a(x y)":         "a(x) a(y) a(x) a(y)",
		"a(x y) z)":             "a(x) a(y) z)",
		"a( ) b":                "b",
		"b a( )":                "b",
		"b a( ) a( c)":          "b a(c)",
		"(x y)":                 "(x y)",
		"( x )":                 "( x )",
		"(x y) a(z w)":          "(x y) a(z) a(w)",
		"(a(x y)":               "(a(x y)",
		"x y)":                  "x y)",
		")":                     ")",
		"(":                     "(",
		"()":                    "()",
		"a(":                    "a(",
		"a(x y":                 "a(x y",
		"a(x y b(z":             "a(x y b(z",
		"a(x)y z":               "a(x)y z",
		"a(x y) b(z w":          "a(x) a(y) b(z w",
		"a(x b(y z)":            "a(x) a(b(y) a(z)",
		"a(x b(y) c":            "a(x) a(b(y) c",
		"a(x (y z)":             "a(x) a((y) a(z)",
		"a(x y)z w)":            "a(x) a(y)z) a(w)",
		"a(x)y z)":              "a(x)y) a(z)",
		"a(b(x y)":              "a(b(x) a(y)",
		"a((x y))":              "a((x) a(y))",
		"a(x ))":                "a(x) a())",
		"a(x | y)":              "a(x) a(|) a(y)",
		"a(x y:z)":              "a(x) a(y:z)",
		"./a(x ./y)":            "./a(x) ./a(./y)",
		"%(% %.o)":              "%(%) %(%.o)",
		"a)(x y)":               "a)(x) a)(y)",
		"\xff(\x80 \x00)":       "\xff(\x80) \xff(\x00)",
		"a(x b c d e) f g(h i)": "a(x) a(b) a(c) a(d) a(e) f g(h) g(i)",
	} {
		wantGroup(t, words(given), words(want))
	}
	wantGroup(t, words("a( )"), nil)
	// A word can be empty only where it is handed in by itself; among members it is none.
	wantGroup(t, []string{""}, []string{""})
	wantGroup(t, []string{"", "a(x", "", "y)", ""}, []string{"", "a(x)", "a(y)", ""})
	wantGroup(t, []string{"a b(c d", "e f)"}, []string{"a b(c d)", "a b(e f)"})
}

func TestP1702LongRows(t *testing.T) {
	// Rows without an end are not looked for again and again.
	open := slices.Repeat([]string{"a(x"}, 300000)
	wantSame(t, Group(open), open)
	row := slices.Concat([]string{"a("}, slices.Repeat([]string{"x"}, 300000), []string{")"})
	wantSame(t, Group(row), slices.Repeat([]string{"a(x)"}, 300000))
	rows := slices.Repeat([]string{"a(x", "y)"}, 100000)
	wantSame(t, Group(rows), slices.Repeat([]string{"a(x)", "a(y)"}, 100000))
}

func wantSame(t *testing.T, got, want []string) {
	t.Helper()
	if !slices.Equal(got, want) {
		t.Errorf("%d words, not %d: %s", len(got), len(want), cutShort(fmt.Sprintf("%q", got[:min(len(got), 20)])))
	}
}

func sameRule(a, b api.Rule) bool {
	same := slices.Equal(a.Targets, b.Targets) && slices.Equal(a.Prereqs, b.Prereqs) && slices.Equal(a.Orders, b.Orders) && slices.Equal(a.Recipe, b.Recipe)
	return same && a.Double == b.Double && a.Pattern == b.Pattern && a.Terminal == b.Terminal && a.Static == b.Static && a.Has == b.Has && a.Again == b.Again && a.Builtin == b.Builtin
}

// wantRule asks for a rule, and for its targets, unless it is a pattern.
func wantRule(t *testing.T, left, right string, double bool, want api.Rule) {
	t.Helper()
	targets := want.Targets
	if want.Pattern {
		targets = nil
	}
	got, l, e := Make(left, right, double)
	if e != api.OK || !sameRule(got, want) || !slices.Equal(l, targets) {
		t.Errorf("Make(%q, %q, %v): %s, %q, %d, not %+v", cutShort(left), cutShort(right), double, cutShort(fmt.Sprintf("%+v", got)), l, int(e), want)
	}
}

// wantWrong asks for an error, with nothing beside it, whether the rule is double or not.
func wantWrong(t *testing.T, left, right string, want api.Errno) {
	t.Helper()
	for _, double := range []bool{false, true} {
		got, l, e := Make(left, right, double)
		if e != want || len(l) != 0 || !sameRule(got, api.Rule{}) {
			t.Errorf("Make(%q, %q, %v): %+v, %q, %d, not %d", cutShort(left), cutShort(right), double, got, l, int(e), int(want))
		}
	}
}

func TestP1703NoTarget(t *testing.T) {
	for _, left := range []string{"", " ", " \t\n ", "a( )", " a( ) b(\t)"} {
		for _, right := range []string{"", "a", "a | b", "%: x", ":", "x y: z", "%"} {
			wantWrong(t, left, right, api.ErrSep)
		}
	}
}

func TestP1703PlainRules(t *testing.T) {
	for _, double := range []bool{false, true} {
		plain := func(left, right string, targets, prereqs, orders []string) {
			t.Helper()
			wantRule(t, left, right, double, api.Rule{Targets: targets, Prereqs: prereqs, Orders: orders, Double: double})
		}
		plain("a", "", words("a"), nil, nil)
		plain("a", " \t\n", words("a"), nil, nil)
		plain(" a\tb\nc ", "", words("a b c"), nil, nil)
		plain("a a", "b b", words("a a"), words("b b"), nil)
		plain("a b", "c d e", words("a b"), words("c d e"), nil)
		plain("a b", "c | d e", words("a b"), words("c"), words("d e"))
		plain("a", "|", words("a"), nil, nil)
		plain("a", "| b", words("a"), nil, words("b"))
		plain("a", "b |", words("a"), words("b"), nil)
		plain("a", "b | c | d", words("a"), words("b"), words("c | d"))
		plain("a", "| |", words("a"), nil, words("|"))
		plain("a", "b|c d| |e", words("a"), words("b|c d| |e"), nil)
		plain("a | b", "c", words("a | b"), words("c"), nil)
		plain("./a .//b ./ .", "././c | ./ ./d ../e", words("a b . ."), words("c"), words(". d ../e"))
		plain("a", "b ./| c", words("a"), words("b"), words("c"))
		plain("l(a b)", "c", words("l(a) l(b)"), words("c"), nil)
		plain("./l( a ./b ) c", "m(x y) | ./n(z w)", words("l(a) l(./b) c"), words("m(x) m(y)"), words("n(z) n(w)"))
		plain("a", "l(b | c) d", words("a"), words("l(b) l(|) l(c) d"), nil)
		plain("a", "l( ) b", words("a"), words("b"), nil)
		plain("l(a b", "m(c d", words("l(a b"), words("m(c d"), nil)
		plain("a:b", "c", words("a:b"), words("c"), nil)
		plain("a = b", "$(c) ; d # e", words("a = b"), words("$(c) ; d # e"), nil)
		plain("a", "%.c | %", words("a"), words("%.c"), words("%"))
		plain("\x00 \xff", "\u20ac", words("\x00 \xff"), words("\u20ac"), nil)
		plain("a\rb", "c\v\fd\u00a0e", words("a\rb"), words("c\v\fd\u00a0e"), nil)
	}
}

func TestP1703Patterns(t *testing.T) {
	for _, double := range []bool{false, true} {
		pattern := func(left, right string, targets, prereqs, orders []string) {
			t.Helper()
			wantRule(t, left, right, double, api.Rule{Targets: targets, Prereqs: prereqs, Orders: orders, Pattern: true, Terminal: double})
		}
		pattern("%", "", words("%"), nil, nil)
		pattern("%.o", "%.c", words("%.o"), words("%.c"), nil)
		pattern("%.o %.d", "%.c x | %.h y", words("%.o %.d"), words("%.c x"), words("%.h y"))
		pattern("./%.o .//d/%", "./%.c", words("%.o d/%"), words("%.c"), nil)
		pattern("(%)", "%", words("(%)"), words("%"), nil)
		pattern("l(% %.o)", "x", words("l(%) l(%.o)"), words("x"), nil)
		pattern("%% a%b%c", "", words("%% a%b%c"), nil, nil)
		pattern("\\%", "%", words("\\%"), words("%"), nil)
		pattern("%.o", "l(x:y) (z:w", words("%.o"), words("l(x:y) (z:w"), nil)
	}
	for _, left := range []string{"% a", "a %", "%.o x", "x %.o", "a b %", "% % a", "a % b", "l(% a)", "l(a %)", "./% ."} {
		for _, right := range []string{"", "x", "%", "x | %", "l(a:b)"} {
			wantWrong(t, left, right, api.ErrMixed)
		}
	}
}

func TestP1703StaticPatterns(t *testing.T) {
	for _, double := range []bool{false, true} {
		static := func(left, right string, targets []string, by string, prereqs, orders []string) {
			t.Helper()
			wantRule(t, left, right, double, api.Rule{Targets: targets, Static: by, Prereqs: prereqs, Orders: orders, Double: double})
		}
		for _, right := range []string{"%.o: %.c", "%.o : %.c", "%.o:%.c", "%.o :%.c", "\t%.o\n:\t%.c\n", "./%.o:./%.c"} {
			static("a.o", right, words("a.o"), "%.o", words("%.c"), nil)
		}
		static("a.o b.o", "%.o : %.c | d", words("a.o b.o"), "%.o", words("%.c"), words("d"))
		static("./a.o .//b.o", "././%.o : ./x | .//d ./", words("a.o b.o"), "%.o", words("x"), words("d ."))
		static("a a", "%:", words("a a"), "%", nil, nil)
		static(".o", "%.o:", words(".o"), "%.o", nil, nil)
		static("a.o", "%.o:|", words("a.o"), "%.o", nil, nil)
		static("a.o", "%.o: | x", words("a.o"), "%.o", nil, words("x"))
		static("a.o", "%.o:| x | y", words("a.o"), "%.o", nil, words("x | y"))
		static("a", "%: b | c | %", words("a"), "%", words("b"), words("c | %"))
		static("a", "%: b: c", words("a"), "%", words("b: c"), nil)
		static("a", "%:: c", words("a"), "%", words(": c"), nil)
		static("a", "%:b:c", words("a"), "%", words("b:c"), nil)
		static("a", "% : : c", words("a"), "%", words(": c"), nil)
		static("l(a b)", "l(%) : %.o m(x y)", words("l(a) l(b)"), "l(%)", words("%.o m(x) m(y)"), nil)
		static("l(a)", "l( % ) : x:y", words("l(a)"), "l(%)", words("x:y"), nil)
		static("a", "% : l(x:y z) (v:w) |", words("a"), "%", words("l(x:y) l(z) (v:w)"), nil)
		static("a", "%: l(x y", words("a"), "%", words("l(x y"), nil)
		static("axb ayb", "a%b : %", words("axb ayb"), "a%b", words("%"), nil)
		static("x:y", "x%: z", words("x:y"), "x%", words("z"), nil)
		static(".", "./%: ./", words("."), "%", words("."), nil)
	}
}

func TestP1703ColonsWithinBrackets(t *testing.T) {
	for _, x := range []struct {
		right string
		want  []string
	}{
		{"l(x:y)", words("l(x:y)")},
		{"l(x:y z)", words("l(x:y) l(z)")},
		{"l(x y:z)", words("l(x) l(y:z)")},
		{"l(x : y)", words("l(x) l(:) l(y)")},
		{"l(% %:x y)", words("l(%) l(%:x) l(y)")},
		{"(x:y", words("(x:y")},
		{"%:l(x)", words("%:l(x)")},
		{"l(%):x", words("l(%):x")},
		{"%:l(x y)", words("%:l(x) %:l(y)")},
		{"l(x:y", words("l(x:y")},
		{"l(:", words("l(:")},
		{"(:)", words("(:)")},
	} {
		wantRule(t, "a", x.right, false, api.Rule{Targets: words("a"), Prereqs: x.want})
		wantRule(t, "%", x.right, true, api.Rule{Targets: words("%"), Prereqs: x.want, Pattern: true, Terminal: true})
	}
	// A ) alone is no bracket, and neither a row that has ended nor one without an end holds what stands behind.
	wantWrong(t, "a", "x):y", api.ErrMany)
	wantWrong(t, "a", "l(x) y:z", api.ErrMany)
	wantWrong(t, "a", "l(x y:z", api.ErrMany)
}

func TestP1703NotOnePattern(t *testing.T) {
	for _, left := range []string{"a", "a b", "%", "% a", "l(a b)"} {
		for _, right := range []string{
			":", " : ", "::", ": x", ":x", ":%", ": % | x", "|:", "| :", "x:", "x: z", "x:z", "x : %", "x y: z", "x y:z", "% %: z", "% y: z", "x %: z", "% x:y",
			"% | : x", "| %: x", "./: %", "% ./:x", "l(x) : y", "l(% %) : y", "l(% x) : y",
		} {
			wantWrong(t, left, right, api.ErrMany)
		}
	}
}

func TestP1703TargetsThatDoNotMatch(t *testing.T) {
	for _, x := range [][2]string{
		{"a", "%.o: z"}, {"a.o b", "%.o: z"}, {"b a.o", "%.o: z"}, {"a.c", "%.o:%.c"}, {"a", "a%a: z"}, {"l(a)", "m(%) : z"}, {"l(a b)", "l(%a) : z"}, {"d/a.o", "./e/%.o:"},
		{"%", "%: z"}, {"%.o", "%.o: z"}, {"a.o %.o", "%.o: z"}, {"%.o a.o", "%.o: z"}, {"a%.o", "%.o:"}, {"%", "x%:"}, {"l(%)", "l(%) : z"},
	} {
		wantWrong(t, x[0], x[1], api.ErrMixed)
	}
}

func TestP1703LongSides(t *testing.T) {
	many := strings.Repeat("a ", 100000)
	got, l, e := Make(many, many+"| "+many, true)
	want := strings.Fields(many)
	if e != api.OK || !slices.Equal(got.Targets, want) || !slices.Equal(got.Prereqs, want) || !slices.Equal(got.Orders, want) || !slices.Equal(l, want) {
		t.Errorf("%d, %d, %d, %d, %d", len(got.Targets), len(got.Prereqs), len(got.Orders), len(l), int(e))
	}
	wantWrong(t, many+"%", many, api.ErrMixed)
	wantWrong(t, many, many+": "+many, api.ErrMany)
	wantWrong(t, many+"b", "%a : "+many, api.ErrMixed)
}

// What is wrong has its number within, and tells the words that show it.
func TestP1703FaultsAreWrapped(t *testing.T) {
	for _, x := range []struct {
		left, right string
		words       string
		want        api.Errno
	}{
		{"", "a", "a", api.ErrSep},
		{"a", "x y: z", "x y", api.ErrMany},
		{"a.o b", "%.o: z", "b", api.ErrMixed},
		{"%.o b", "", "b", api.ErrMixed},
	} {
		d := draft{sides: sides{named(grouped(x.left)), grouped(x.right)}}
		err := d.settle()
		var f *fault
		if !errors.Is(err, x.want) || !errors.As(err, &f) || f.words != x.words || !strings.HasPrefix(err.Error(), x.words+": ") {
			t.Errorf("of %q, %q: %v", x.left, x.right, err)
		}
	}
	if got := number(nil); got != api.OK {
		t.Errorf("of no error: %d", int(got))
	}
}

// over is a text and the bytes that it stands in, which can be written over.
func over(s string) (string, []byte) {
	b := []byte(s)
	return unsafe.String(unsafe.SliceData(b), len(b)), b
}

func spoil(b []byte) {
	for i := range b {
		b[i] = '?'
	}
}

func TestP1704TextsAreNew(t *testing.T) {
	for _, s := range []string{"a", "a b", "a = b", "a+=b", "a::=b", "x: y", "x:: y ; z", "x: v = 1", "x:y;", "$(a)", "$(a):$(b)=c", "=a", ":a", "x:;a"} {
		given, bytes := over(s)
		got := Take(given)
		if string(bytes) != s {
			t.Errorf("Take has changed %q", s)
		}
		spoil(bytes)
		if want := Take(s); got != want {
			t.Errorf("Take of %q, written over: %+v", s, got)
		}
	}
	for _, s := range []string{"a", "./a", ".", "..", "././a", "./", "/a", "a/./b"} {
		given, bytes := over(s)
		got := Name(given)
		if string(bytes) != s {
			t.Errorf("Name has changed %q", s)
		}
		spoil(bytes)
		if want := Name(s); got != want {
			t.Errorf("Name of %q, written over: %q", s, got)
		}
	}
}

func TestP1704GroupsAreNew(t *testing.T) {
	for _, s := range []string{"a", "a b", "a(x)", "a(x y z) b", "a(x y", "a( x )", "(x y)", "a(x y) b(z"} {
		var given []string
		var under [][]byte
		for _, w := range words(s) {
			one, bytes := over(w)
			given, under = append(given, one), append(under, bytes)
		}
		spare := append(slices.Clone(given), "spare")
		got := Group(spare[:len(given)])
		if !slices.Equal(given, words(s)) || spare[len(given)] != "spare" || !slices.Equal(spare[:len(given)], given) {
			t.Errorf("Group has changed %q: %q", s, spare)
		}
		for _, b := range under {
			spoil(b)
		}
		clear(spare)
		if want := Group(words(s)); !slices.Equal(got, want) {
			t.Errorf("Group of %q, written over: %q", s, got)
		}
	}
}

func TestP1704RulesAreNew(t *testing.T) {
	for _, x := range [][2]string{{"a b", "c | d e"}, {"%.o", "%.c | d"}, {"a.o b.o", "./%.o : %.c | d"}, {"l(a b)", "m(c d)"}, {"a", "%:x"}} {
		left, leftBytes := over(x[0])
		right, rightBytes := over(x[1])
		got, l, e := Make(left, right, true)
		if string(leftBytes) != x[0] || string(rightBytes) != x[1] {
			t.Errorf("Make has changed %q", x)
		}
		spoil(leftBytes)
		spoil(rightBytes)
		want, wantTargets, _ := Make(x[0], x[1], true)
		if e != api.OK || !sameRule(got, want) || !slices.Equal(l, wantTargets) {
			t.Errorf("Make of %q, written over: %+v, %q", x, got, l)
		}
	}
}

// Each list of each answer is its own, its spare room too.
func TestP1704TwoAnswersAreTwo(t *testing.T) {
	for _, x := range [][2]string{{"a b", "c d | e f"}, {"%.o %.d", "%.c x | d e"}, {"a.o b.o", "%.o : %.c x | d e"}, {"a.o", "%.o:x | y"}, {"a b", "c d"}, {"a b", "| c d"}} {
		first, firstTargets, _ := Make(x[0], x[1], false)
		second, secondTargets, _ := Make(x[0], x[1], false)
		lists := []*[]string{&first.Targets, &first.Prereqs, &first.Orders, &firstTargets}
		for i, l := range lists {
			var others [][]string
			for _, o := range lists {
				others = append(others, slices.Clone(*o))
			}
			grown := append(*l, "grown", "grown", "grown")
			for at := range grown {
				grown[at] = "spoilt"
			}
			clear(*l)
			for j, o := range lists {
				if i != j && !slices.Equal(*o, others[j]) {
					t.Errorf("of %q: list %d shares with list %d", x, j, i)
				}
			}
		}
		want, wantTargets, _ := Make(x[0], x[1], false)
		if !sameRule(second, want) || !slices.Equal(secondTargets, wantTargets) {
			t.Errorf("of %q: a second answer has changed: %+v, %q", x, second, secondTargets)
		}
	}
	first, second := Group(words("a(x y) b")), Group(words("a(x y) b"))
	clear(append(first, "grown")[:3])
	clear(first)
	wantSame(t, second, words("a(x) a(y) b"))
}

func TestP1704SameArgumentsSameAnswers(t *testing.T) {
	lines := []string{"a = b", "x: y", "x:: v += 1", "$(a:b)", "", "x: y ; z"}
	var heads []api.Head
	for _, s := range lines {
		heads = append(heads, Take(s))
	}
	// What other calls were told, and in which order, is not to be seen.
	for range 3 {
		for i, s := range slices.Backward(lines) {
			Make(s, s, i%2 == 0)
			Group(words(s))
			if got := Take(s); got != heads[i] {
				t.Errorf("Take(%q), once more: %+v", s, got)
			}
		}
	}
}

func TestBehind(t *testing.T) {
	for right, want := range map[string]string{
		"": "", " ": "", "a": "", "a b": "", "%.o:%.c": "%.c", " %.o : %.c | d ": " %.c | d ", "%.o:": "", "%.o: ": " ", ":a": "a", ": :": " :", "%.o: a:b": " a:b", "l(a:b)": "", "l(a b:c) %.o: x": " x", "l(a:b c:d) %:e": "e", "l(a b:c": "c", "l(a b:c ) d:e": "e", "(a b:c d)": "c d)", "$(x:a=b) %.o:\t$(y:a=b)\n": "\t$(y:a=b)\n", "a(b) c(d e) f:g h": "g h", "a:b\n": "b\n", "\t\n%:\n%": "\n%",
	} {
		if got := Behind(right); got != want {
			t.Errorf("Behind(%q): %q, not %q", right, got, want)
		}
	}
}

func TestBehindAgainstMake(t *testing.T) {
	statics := 0
	hold := func(right string) {
		made, _, e := Make("x", right, false)
		if e != api.OK || made.Static == "" {
			return
		}
		statics++
		again, _, _ := Make("x", "%:"+Behind(right), false)
		if !slices.Equal(again.Prereqs, made.Prereqs) || !slices.Equal(again.Orders, made.Orders) {
			t.Fatalf("Behind(%q): %q, and Make tells %+v", right, Behind(right), made)
		}
	}
	eachText([]string{"%", ":", " ", "|", "x", "(", ")"}, 6, hold)
	r := rand.New(rand.NewSource(3))
	pieces := []string{"x", "%", "%: ", " ", " ", "\t", "\n", ":", " : ", "|", "(", ")", "l(", "l(a) "}
	for range 100000 {
		hold("%" + grown(r, pieces, 12))
	}
	if statics < 1000 {
		t.Errorf("only %d static patterns", statics)
	}
}
