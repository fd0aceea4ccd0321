package gram

import (
	"errors"
	"fmt"
	"math/rand"
	"slices"
	"strings"
	"sync"
	"testing"
	"unsafe"

	"anvil/api"
	"anvil/lex"
)

// Short forms of commands. A text's words are parted by blanks.
func cmd(words string) api.Cmd {
	return api.Cmd{Kind: api.CmdSimple, Words: strings.Fields(words)}
}
func sets(assigns, words string) api.Cmd {
	return api.Cmd{Kind: api.CmdSimple, Assigns: strings.Fields(assigns), Words: strings.Fields(words)}
}
func list(kids ...api.Cmd) api.Cmd { return api.Cmd{Kind: api.CmdList, Kids: kids} }
func pipe(kids ...api.Cmd) api.Cmd { return api.Cmd{Kind: api.CmdPipe, Kids: kids} }
func not(kids ...api.Cmd) api.Cmd  { return api.Cmd{Kind: api.CmdPipe, Not: true, Kids: kids} }
func and(a, b api.Cmd) api.Cmd     { return api.Cmd{Kind: api.CmdAnd, Kids: []api.Cmd{a, b}} }
func or(a, b api.Cmd) api.Cmd      { return api.Cmd{Kind: api.CmdOr, Kids: []api.Cmd{a, b}} }
func group(c api.Cmd) api.Cmd      { return api.Cmd{Kind: api.CmdGroup, Kids: []api.Cmd{c}} }
func sub(c api.Cmd) api.Cmd        { return api.Cmd{Kind: api.CmdSub, Kids: []api.Cmd{c}} }
func when(kids ...api.Cmd) api.Cmd { return api.Cmd{Kind: api.CmdIf, Kids: kids} }
func while(a, b api.Cmd) api.Cmd   { return api.Cmd{Kind: api.CmdWhile, Kids: []api.Cmd{a, b}} }
func until(a, b api.Cmd) api.Cmd {
	return api.Cmd{Kind: api.CmdWhile, Not: true, Kids: []api.Cmd{a, b}}
}
func each(words string, body api.Cmd) api.Cmd {
	return api.Cmd{Kind: api.CmdFor, Words: strings.Fields(words), Kids: []api.Cmd{body}}
}
func which(word string, arms ...api.Arm) api.Cmd {
	return api.Cmd{Kind: api.CmdCase, Words: []string{word}, Arms: arms}
}
func arm(pats string, body api.Cmd) api.Arm { return api.Arm{Pats: strings.Fields(pats), Body: body} }

// to gives c redirections: an op and a word, and so on.
func to(c api.Cmd, ops string) api.Cmd {
	l := strings.Fields(ops)
	for i := 0; i < len(l); i += 2 {
		c.Redirs = append(c.Redirs, api.Redir{Op: l[i], Word: l[i+1]})
	}
	return c
}

var (
	a = cmd("a")
	b = cmd("b")
	c = cmd("c")
	d = cmd("d")
	e = cmd("e")
)

// told writes out every field that is not zero, whatever the kind.
func told(x api.Cmd) string {
	var out strings.Builder
	write(&out, x)
	return out.String()
}

func write(out *strings.Builder, x api.Cmd) {
	fmt.Fprintf(out, "%d", x.Kind)
	if x.Not {
		out.WriteString("!")
	}
	if len(x.Assigns) > 0 {
		fmt.Fprintf(out, " sets%q", x.Assigns)
	}
	if len(x.Words) > 0 {
		fmt.Fprintf(out, "%q", x.Words)
	}
	for _, r := range x.Redirs {
		fmt.Fprintf(out, " %s %q", r.Op, r.Word)
	}
	for _, y := range x.Arms {
		fmt.Fprintf(out, " arm%q{", y.Pats)
		write(out, y.Body)
		out.WriteString("}")
	}
	for _, k := range x.Kids {
		out.WriteString("(")
		write(out, k)
		out.WriteString(")")
	}
}

// parses asks that s is these commands, one behind the other.
func parses(t *testing.T, s string, want ...api.Cmd) {
	t.Helper()
	if got, e := Parse(s); e != api.OK || told(got) != told(list(want...)) {
		t.Errorf("Parse of %.200q: %.600s, %d, not %.600s", s, told(got), e, told(list(want...)))
	}
}

// refuses asks for that error, and nothing beside it, at each of the texts.
func refuses(t *testing.T, want api.Errno, texts ...string) {
	t.Helper()
	for _, s := range texts {
		if got, e := Parse(s); e != want || told(got) != told(api.Cmd{}) {
			t.Errorf("Parse of %d bytes %.100q: %.200s, %d, not %d", len(s), s, told(got), e, want)
		}
	}
}

// grammar is a second telling of the chapter's grammar, written as it stands there: it goes all ways at once, where the parser goes one.
type grammar struct {
	tokens []api.Token
	known  map[place][]way
}

type place struct {
	rule string
	at   int
}

// way is one of the ways in which the tokens up to at can be gone over: what was met on it, and how many compounds are within one another there.
type way struct {
	at     int
	made   api.Cmd
	deep   int
	redirs []api.Redir
}

type rule func(way) []way

// with is a way with more in it, that shares no list with the one that it comes from.
func (w way) with(words []string, kids []api.Cmd, redirs []api.Redir, arms []api.Arm) way {
	w.made.Words = slices.Concat(w.made.Words, words)
	w.made.Kids = slices.Concat(w.made.Kids, kids)
	w.redirs = slices.Concat(w.redirs, redirs)
	w.made.Arms = slices.Concat(w.made.Arms, arms)
	return w
}

func (w way) key() string { return fmt.Sprint(w.at, w.deep, w.redirs, told(w.made)) }

// each way once.
func distinct(ways []way) []way {
	if len(ways) < 2 {
		return ways
	}
	seen := map[string]int{}
	var l []way
	for _, w := range ways {
		k := w.key()
		if seen[k]++; seen[k] == 1 {
			l = append(l, w)
		}
	}
	return l
}

func seq(rules ...rule) rule {
	return func(w way) []way {
		ways := []way{w}
		for _, r := range rules {
			var next []way
			for _, x := range ways {
				next = append(next, r(x)...)
			}
			ways = distinct(next)
		}
		return ways
	}
}

func alt(rules ...rule) rule {
	return func(w way) []way {
		var ways []way
		for _, r := range rules {
			ways = append(ways, r(w)...)
		}
		return distinct(ways)
	}
}

func opt(rules ...rule) rule { return alt(seq(), seq(rules...)) }

func many(rules ...rule) rule {
	return func(w way) []way {
		all := []way{w}
		for ways := all; len(ways) > 0; {
			var next []way
			for _, x := range ways {
				next = append(next, seq(rules...)(x)...)
			}
			ways = distinct(next)
			all = append(all, ways...)
		}
		return distinct(all)
	}
}

// one goes over a token of that kind and text.
func (g *grammar) one(kind int, texts ...string) rule {
	return func(w way) []way {
		if w.at < len(g.tokens) && g.tokens[w.at].Kind == kind && slices.Contains(texts, g.tokens[w.at].Text) {
			w.at++
			return []way{w}
		}
		return nil
	}
}

func (g *grammar) op(texts ...string) rule   { return g.one(api.TokOp, texts...) }
func (g *grammar) just(texts ...string) rule { return g.one(api.TokWord, texts...) }

// word goes over a word that keep finds fit, and has it among the words.
func (g *grammar) word(keep func(string) bool) rule {
	return func(w way) []way {
		if w.at == len(g.tokens) || g.tokens[w.at].Kind != api.TokWord || !keep(g.tokens[w.at].Text) {
			return nil
		}
		w = w.with([]string{g.tokens[w.at].Text}, nil, nil, nil)
		w.at++
		return []way{w}
	}
}

func anyWord(string) bool { return true }

// kid goes over what made goes over, and has what comes of it among the kids.
func (g *grammar) kid(name string, made func(at int) []way) rule {
	return func(w way) []way {
		here := place{name, w.at}
		inner, ok := g.known[here]
		if !ok {
			inner = distinct(made(w.at))
			g.known[here] = inner
		}
		var ways []way
		for _, x := range inner {
			y := w.with(nil, []api.Cmd{x.made}, nil, nil)
			y.at, y.deep = x.at, max(w.deep, x.deep)
			ways = append(ways, y)
		}
		return ways
	}
}

// turned makes a rule's ways into commands.
func turned(r rule, at int, turn func(api.Cmd, way) api.Cmd) []way {
	var ways []way
	for _, w := range r(way{at: at}) {
		ways = append(ways, way{at: w.at, deep: w.deep, made: turn(w.made, w)})
	}
	return ways
}

func (g *grammar) nl() rule { return many(g.one(api.TokNewline, "\n")) }

func (g *grammar) sep() rule { return seq(alt(g.op(";"), g.one(api.TokNewline, "\n")), g.nl()) }

func (g *grammar) andors() rule {
	andor := g.kid("andor", g.andor)
	return seq(andor, many(g.sep(), andor), opt(g.sep()))
}

func (g *grammar) list() rule {
	return g.kid("list", func(at int) []way {
		return turned(g.andors(), at, func(x api.Cmd, _ way) api.Cmd {
			if x.Kind = api.CmdList; len(x.Kids) == 1 {
				return x.Kids[0]
			}
			return x
		})
	})
}

func (g *grammar) andor(at int) []way {
	ways := g.pipe(at)
	for all := ways; len(all) > 0; {
		var next []way
		for _, x := range all {
			for kind, op := range map[int]string{api.CmdAnd: "&&", api.CmdOr: "||"} {
				r := seq(g.op(op), g.nl(), g.kid("pipe", g.pipe))
				for _, y := range r(way{at: x.at, deep: x.deep}) {
					y.made = api.Cmd{Kind: kind, Kids: []api.Cmd{x.made, y.made.Kids[0]}}
					next = append(next, y)
				}
			}
		}
		all = distinct(next)
		ways = append(ways, all...)
	}
	return ways
}

func (g *grammar) pipe(at int) []way {
	command := g.kid("command", g.command)
	plain := seq(command, many(g.op("|"), g.nl(), command))
	ways := turned(plain, at, func(x api.Cmd, _ way) api.Cmd {
		if x.Kind = api.CmdPipe; len(x.Kids) == 1 {
			return x.Kids[0]
		}
		return x
	})
	return append(ways, turned(seq(g.just("!"), plain), at, func(x api.Cmd, _ way) api.Cmd {
		x.Kind, x.Not = api.CmdPipe, true
		return x
	})...)
}

func (g *grammar) command(at int) []way { return append(g.simple(at), g.compound(at)...) }

func (g *grammar) redir(w way) []way {
	var ways []way
	for _, op := range []string{"<", ">", ">>"} {
		for _, x := range seq(g.op(op), g.word(anyWord))(way{at: w.at}) {
			y := w.with(nil, nil, []api.Redir{{Op: op, Word: x.made.Words[0]}}, nil)
			y.at = x.at
			ways = append(ways, y)
		}
	}
	return ways
}

// simple takes all that it can: there is no shorter one.
func (g *grammar) simple(at int) []way {
	if g.tokens[at].Kind == api.TokWord && slices.Contains(reserved(), g.tokens[at].Text) {
		return nil
	}
	w := way{at: at}
	for {
		if l := g.redir(w); len(l) > 0 {
			w = l[0]
		} else if t := g.tokens[w.at]; t.Kind != api.TokWord {
			break
		} else if name, _, ok := strings.Cut(t.Text, "="); ok && plainName(name) && len(w.made.Words) == 0 {
			w.made.Assigns = append(w.made.Assigns, t.Text)
			w.at++
		} else {
			w.made.Words = append(w.made.Words, t.Text)
			w.at++
		}
	}
	if w.at == at {
		return nil
	}
	w.made.Kind, w.made.Redirs, w.redirs = api.CmdSimple, w.redirs, nil
	return []way{w}
}

func plainName(s string) bool {
	const letters = "_abcdefghijklmnopqrstuvwxyzABCDEFGHIJKLMNOPQRSTUVWXYZ"
	return s != "" && strings.Trim(s, letters+"0123456789") == "" && strings.ContainsRune(letters, rune(s[0]))
}

// Name tells the longest one at the beginning: chapter 10 leans on it.
func TestP901Names(t *testing.T) {
	for s, want := range map[string]string{"": "", "a": "a", "_": "_", "Z9_a": "Z9_a", "ab-c": "ab", "a b": "a", "9a": "", "-a": "", " a": "", "a=b": "a", "é": "", "aé": "a", "a\x00": "a", "?": "", "$a": ""} {
		if got := Name(s); got != want {
			t.Errorf("Name of %q: %q, not %q", s, got, want)
		}
	}
	for c := range 256 {
		one := string([]byte{byte(c)})
		if got := Name(one); (got == one) != plainName(one) || got != one && got != "" {
			t.Errorf("Name of %q: %q", one, got)
		}
		if got := Name("a" + one + "-"); (got == "a"+one) != plainName("a"+one) {
			t.Errorf("Name of %q: %q", "a"+one+"-", got)
		}
	}
}

func reserved() []string {
	return []string{"then", "elif", "else", "fi", "do", "done", "esac", "}", "if", "while", "until", "for", "case", "{", "!"}
}

func (g *grammar) compound(at int) []way {
	nl, list, sep := g.nl, g.list, g.sep
	var r rule
	kind, negated := 0, false
	switch g.tokens[at].Text {
	case "(":
		kind, r = api.CmdSub, seq(g.op("("), nl(), list(), g.op(")"))
	case "{":
		kind, r = api.CmdGroup, seq(g.just("{"), nl(), list(), g.just("}"))
	case "if":
		kind, r = api.CmdIf, seq(g.just("if"), g.rest(), g.just("fi"))
	case "until":
		negated = true
		fallthrough
	case "while":
		kind, r = api.CmdWhile, seq(g.just("while", "until"), nl(), list(), g.just("do"), nl(), list(), g.just("done"))
	case "for":
		words := alt(seq(g.just("in"), many(g.word(anyWord)), sep()), sep(), seq())
		kind, r = api.CmdFor, seq(g.just("for"), g.word(plainName), nl(), words, g.just("do"), nl(), list(), g.just("done"))
	case "case":
		kind, r = api.CmdCase, seq(g.just("case"), g.word(anyWord), nl(), g.just("in"), nl(), many(g.arm(true)), opt(g.arm(false)), g.just("esac"))
	default:
		return nil
	}
	ways := turned(seq(r, many(g.redir)), at, func(x api.Cmd, w way) api.Cmd {
		x.Kind, x.Not, x.Redirs = kind, negated, w.redirs
		return x
	})
	for i := range ways {
		ways[i].deep++
	}
	return ways
}

// rest is what stands behind an if or an elif, up to the fi.
func (g *grammar) rest() rule {
	nl, list := g.nl(), g.list()
	elif := func(w way) []way {
		return g.kid("elif", func(at int) []way {
			return turned(g.rest(), at, func(x api.Cmd, _ way) api.Cmd {
				x.Kind = api.CmdIf
				return x
			})
		})(w)
	}
	return seq(nl, list, g.just("then"), nl, list, alt(seq(), seq(g.just("else"), nl, list), seq(g.just("elif"), elif)))
}

func (g *grammar) arm(ended bool) rule {
	first := alt(seq(g.op("("), g.word(anyWord)), g.word(func(s string) bool { return s != "esac" }))
	behind := seq()
	if ended {
		behind = seq(g.op(";;"), g.nl())
	}
	inner := seq(first, many(g.op("|"), g.word(anyWord)), g.op(")"), g.nl(), opt(g.list()), behind)
	return func(w way) []way {
		var ways []way
		for _, x := range inner(way{at: w.at, deep: w.deep}) {
			body := list()
			if len(x.made.Kids) > 0 {
				body = x.made.Kids[0]
			}
			y := w.with(nil, nil, nil, []api.Arm{{Pats: x.made.Words, Body: body}})
			y.at, y.deep = x.at, x.deep
			ways = append(ways, y)
		}
		return ways
	}
}

// plainParse is the second telling of P901; it tells how many answers there are, too.
func plainParse(s string) (api.Cmd, api.Errno, int) {
	tokens, e := lex.Lex(s)
	if e != api.OK {
		return api.Cmd{}, e, 1
	}
	g := &grammar{tokens: tokens, known: map[place][]way{}}
	script := seq(g.nl(), opt(g.andors()), g.one(api.TokEnd, ""))
	ways := turned(script, 0, func(x api.Cmd, _ way) api.Cmd {
		x.Kind = api.CmdList
		return x
	})
	switch ways = distinct(ways); {
	case len(ways) == 0:
		return api.Cmd{}, api.ErrSyntax, 1
	case ways[0].deep > api.MaxDeep:
		return api.Cmd{}, api.ErrDeep, len(ways)
	}
	return ways[0].made, api.OK, len(ways)
}

// asThePlain asks that s is told as the second telling has it, and tells the error.
func asThePlain(t *testing.T, s string) api.Errno {
	t.Helper()
	got, e := Parse(s)
	want, f, n := plainParse(s)
	if e != f || told(got) != told(want) || n != 1 {
		t.Fatalf("Parse of %.300q: %.400s, %d, not %.400s, %d (of %d)", s, told(got), e, told(want), f, n)
	}
	return e
}

func TestP901Examples(t *testing.T) {
	parses(t, "a=1 b c >d", to(sets("a=1", "b c"), "> d"))
	parses(t, "a && b | c; d", and(a, pipe(b, c)), d)
	parses(t, "if a; then b; else c; fi", when(a, b, c))
	parses(t, "")
	refuses(t, api.ErrSyntax, ";", "a &&", "fi", "a &", "( a")
}

func TestP901NoList(t *testing.T) {
	for _, s := range []string{"", "\n", "\n\n\n", " ", "\t\n ", "# a", "# a\n# b\n", "\\\n", " \\\n\n\\\n"} {
		parses(t, s)
		if got, e := Parse(s); e != api.OK || got.Kind != api.CmdList || len(got.Kids) != 0 {
			t.Errorf("Parse of %q: %s, %d", s, told(got), e)
		}
	}
}

// Lex's errors are told as they are, whatever stands around.
func TestP901LexErrors(t *testing.T) {
	long := strings.Repeat("a", api.MaxText)
	deep := strings.Repeat("$(", api.MaxDeep+1) + strings.Repeat(")", api.MaxDeep+1)
	for _, frame := range []string{"%s", "a %s", "fi %s", "; %s", "( %s", "a &\n%s", "if %s", "case %s", strings.Repeat("(", 61) + "%s", "a >%s"} {
		put := func(s string) string { return strings.Replace(frame, "%s", s, 1) }
		refuses(t, api.ErrQuote, put("'a"), put("\"a"), put("`a"), put("$(a"), put("${a"))
		refuses(t, api.ErrDeep, put(deep))
		refuses(t, api.ErrLong, put(long+"a"), put(strings.Repeat("a ", api.MaxWords)), put(strings.Repeat(";", api.MaxWords*2)))
	}
	refuses(t, api.ErrLong, strings.Repeat("a;", api.MaxWords/2), strings.Repeat("fi ", api.MaxWords))
	parses(t, long, cmd(long))
	parses(t, strings.Repeat("a\n", api.MaxWords/2-1), slices.Repeat([]api.Cmd{a}, api.MaxWords/2-1)...)
	parses(t, strings.Repeat("\n", api.MaxWords-1))
	words := strings.Repeat("a ", api.MaxWords-1)
	parses(t, words, cmd(words))
	// A word that has no end later on comes ahead of what is no script earlier.
	refuses(t, api.ErrQuote, "fi; ) & '")
}

func TestP901Lists(t *testing.T) {
	for _, s := range []string{"a", "a;", "a\n", "\na", "\n\n a;\n\n", "a;\n", "a # b", "a; # b", "# b\na"} {
		parses(t, s, a)
	}
	for _, s := range []string{"a;b", "a\nb", "a; b;", "a;\nb\n", "a;\n\n\nb", "a\n\n\nb;\n", "\na\nb", "a # c\nb", "a\n# c\nb", "a;\\\nb"} {
		parses(t, s, a, b)
	}
	parses(t, "a;b\nc;\nd\n\ne;", a, b, c, d, e)
	refuses(t, api.ErrSyntax, ";", ";a", "\n;", "\n;a", "a;;", "a;;b", "a; ;", "a; ; b", "a\n;", "a\n;b", "a;\n;b", "a;\n;", ";;", "a \n ; \n b", "a;&&b", "a\n&&b", "a\n|b", "a\n||b")
	// A list of one in a body is that one, one of several a CmdList.
	parses(t, "(a;)", sub(a))
	parses(t, "(a\n)", sub(a))
	parses(t, "(a;b)", sub(list(a, b)))
	parses(t, "(\n\na;\n\nb\n)", sub(list(a, b)))
	parses(t, "{ a && b\n}", group(and(a, b)))
	parses(t, "((a;b);)", sub(sub(list(a, b))))
	parses(t, "(a;b);c", sub(list(a, b)), c)
}

func TestP901AndOr(t *testing.T) {
	parses(t, "a && b", and(a, b))
	parses(t, "a||b", or(a, b))
	parses(t, "a && b && c", and(and(a, b), c))
	parses(t, "a || b || c", or(or(a, b), c))
	parses(t, "a && b || c", or(and(a, b), c))
	parses(t, "a || b && c", and(or(a, b), c))
	parses(t, "a && b || c && d || e", or(and(or(and(a, b), c), d), e))
	parses(t, "a &&\nb ||\n\n\nc", or(and(a, b), c))
	parses(t, "a && # d\n# e\nb", and(a, b))
	parses(t, "a && b; c || d", and(a, b), or(c, d))
	parses(t, "a | b && c | d", and(pipe(a, b), pipe(c, d)))
	parses(t, "(a || b) && c", and(sub(or(a, b)), c))
	parses(t, "a && (b || c)", and(a, sub(or(b, c))))
	parses(t, "a && ! b", and(a, not(b)))
	parses(t, "! a && b", and(not(a), b))
	parses(t, "! a || ! b | c", or(not(a), not(b, c)))
	refuses(t, api.ErrSyntax, "&&", "||", "a &&", "a ||", "&& a", "|| a", "a && && b", "a || || b", "a && || b", "a &&;b", "a && ; b", "a\n&& b", "a &&\n", "a && )", "a && fi", "a || }", "a &&\nthen", "(a &&)", "{ a || }", "a & & b", "a && b ||", "a &&& b", "a ||| b")
	// Many of them, one within another.
	want := a
	for range 1000 {
		want = or(and(want, b), c)
	}
	parses(t, "a"+strings.Repeat("&&b||c", 1000), want)
}

func TestP901Pipes(t *testing.T) {
	parses(t, "a", a)
	parses(t, "a | b", pipe(a, b))
	parses(t, "a|b|c|d", pipe(a, b, c, d))
	parses(t, "a |\n\nb |\n c", pipe(a, b, c))
	parses(t, "a | # d\nb", pipe(a, b))
	parses(t, "! a", not(a))
	parses(t, "! a | b", not(a, b))
	parses(t, "! a | b | c", not(a, b, c))
	parses(t, "! a; b", not(a), b)
	parses(t, "a | b; ! c | d", pipe(a, b), not(c, d))
	parses(t, "!(a)", not(sub(a)))
	parses(t, "! (a | b)", not(sub(pipe(a, b))))
	parses(t, "! { ! a; }", not(group(not(a))))
	parses(t, "(! a)", sub(not(a)))
	parses(t, "! if a; then b; fi", not(when(a, b)))
	parses(t, "! a=1", not(sets("a=1", "")))
	parses(t, "! >f", not(to(cmd(""), "> f")))
	parses(t, "(a) | { b; } | c", pipe(sub(a), group(b), c))
	parses(t, "(a | b) >f | c", pipe(to(sub(pipe(a, b)), "> f"), c))
	parses(t, "a <f | b >g", pipe(to(a, "< f"), to(b, "> g")))
	parses(t, "while a | b; do c | d; done | e", pipe(while(pipe(a, b), pipe(c, d)), e))
	// A ! that is not where a pipe begins, or not just so, is a word.
	parses(t, "a !", cmd("a !"))
	parses(t, "a ! b", cmd("a ! b"))
	parses(t, "!a", cmd("!a"))
	parses(t, "!!", cmd("!!"))
	parses(t, "'!' a", cmd("'!' a"))
	parses(t, ">f !", to(cmd("!"), "> f"))
	refuses(t, api.ErrSyntax, "|", "a |", "| a", "a | | b", "a |; b", "a | && b", "a |\n", "a | ! b", "! a | ! b", "!", "! !", "! ! a", "!\na", "!;a", "! | a", "! && a", "! fi", "! ) a", "(!)", "{ ! }", "a | fi", "a | }", "a | )", "a |& b", "a\n| b", "a ;| b")
}

func TestP901Simple(t *testing.T) {
	parses(t, "a b c", cmd("a b c"))
	parses(t, "'a b' \"c\" $(d e) `f` ${g h} \\;", api.Cmd{Kind: api.CmdSimple, Words: []string{"'a b'", `"c"`, "$(d e)", "`f`", "${g h}", `\;`}})
	parses(t, "a=1", sets("a=1", ""))
	parses(t, "a=", sets("a=", ""))
	parses(t, "a==", sets("a==", ""))
	parses(t, "a=b=c", sets("a=b=c", ""))
	parses(t, "a=1 b=2", sets("a=1 b=2", ""))
	parses(t, "a=1 a=2 b c", sets("a=1 a=2", "b c"))
	parses(t, "a= b", sets("a=", "b"))
	parses(t, "a =b", cmd("a =b"))
	parses(t, "a = b", cmd("a = b"))
	parses(t, "a='b c' d", api.Cmd{Kind: api.CmdSimple, Assigns: []string{"a='b c'"}, Words: []string{"d"}})
	parses(t, "a=\"$(b; c)\"", api.Cmd{Kind: api.CmdSimple, Assigns: []string{`a="$(b; c)"`}})
	// Behind a first word there are none.
	parses(t, "a b=1", cmd("a b=1"))
	parses(t, "a=1 b c=2 d=3", sets("a=1", "b c=2 d=3"))
	parses(t, "a= '' b=2", sets("a=", "'' b=2"))
	// All names, and no others.
	for _, name := range []string{"a", "_", "A", "z", "Z", "a1", "_1", "__", "aB_9", "if", "fi", "then", "in", "esac", strings.Repeat("a", 1000), "x0", "m9"} {
		parses(t, name+"=1", sets(name+"=1", ""))
		parses(t, name+"=1 b", sets(name+"=1", "b"))
		parses(t, "for "+name+" do b; done", each(name, b))
	}
	for _, name := range []string{"1", "1a", "9_", "a-b", "a.b", "a+", "a:", "a?", "+", "-", "é", "aé", "a\xff", "\x80", "'a'", `"a"`, `a\b`, `\a`, "$a", "a$", "a[1]", "{", "}", "!", "@", "`a`", "[", "^", "/", ":", "a\x00"} {
		parses(t, name+"=1", cmd(name+"=1"))
		parses(t, name+"=1 b=2", cmd(name+"=1 b=2"))
		parses(t, "c=3 "+name+"=1 b=2", sets("c=3", name+"=1 b=2"))
		refuses(t, api.ErrSyntax, "for "+name+" do b; done", "for "+name+"; do b; done", "for "+name+" in c; do b; done")
	}
	parses(t, "=", cmd("="))
	parses(t, "=1", cmd("=1"))
	parses(t, "=1 a=1", cmd("=1 a=1"))
	for x := range 256 {
		s := string([]byte{byte(x)})
		asThePlain(t, "a"+s+"=1")
		asThePlain(t, s+"=1")
		asThePlain(t, "for "+s+" do b; done")
		asThePlain(t, "for a"+s+" do b; done")
	}
	refuses(t, api.ErrSyntax, "a (b)", "a()", "a(", "a { b; }; }", "a b )", "a=1 (b)", "a=(b)")
}

func TestP901Redirs(t *testing.T) {
	parses(t, ">f", to(cmd(""), "> f"))
	parses(t, "<f", to(cmd(""), "< f"))
	parses(t, ">>f", to(cmd(""), ">> f"))
	parses(t, "> f", to(cmd(""), "> f"))
	parses(t, "a>f", to(a, "> f"))
	parses(t, ">f a", to(a, "> f"))
	parses(t, "a >f b <g c >>h", to(cmd("a b c"), "> f < g >> h"))
	parses(t, ">f >f >f", to(cmd(""), "> f > f > f"))
	parses(t, ">f a=1 <g b=2 >>h c d=3 >i", to(sets("a=1 b=2", "c d=3"), "> f < g >> h > i"))
	parses(t, "a=1 >f", to(sets("a=1", ""), "> f"))
	parses(t, ">a=1 b=2", to(sets("b=2", ""), "> a=1"))
	parses(t, "2>f", to(cmd("2"), "> f"))
	parses(t, ">'f g'", api.Cmd{Kind: api.CmdSimple, Redirs: []api.Redir{{Op: ">", Word: "'f g'"}}})
	// Any word may stand behind: none begins a command there.
	for _, word := range append(reserved(), "in", "a=1", "1", "$x", "''") {
		parses(t, "a >"+word, to(a, "> "+word))
		parses(t, "<"+word+" a", to(a, "< "+word))
		parses(t, "(a) >> "+word, to(sub(a), ">> "+word))
		// Nor behind it: the command has begun.
		if word != "a=1" {
			parses(t, ">f "+word+" b", to(cmd(word+" b"), "> f"))
			parses(t, "a=1 "+word, sets("a=1", word))
		}
	}
	compounds := map[string]api.Cmd{
		"(a)": sub(a), "{ a; }": group(a), "if a; then b; fi": when(a, b), "if a; then b; elif c; then d; else e; fi": when(a, b, when(c, d, e)),
		"while a; do b; done": while(a, b), "until a; do b; done": until(a, b), "for i in x; do b; done": each("i x", b), "for i do b; done": each("i", b),
		"case x in a) b;; esac": which("x", arm("a", b)), "case x in esac": which("x"),
	}
	for s, want := range compounds {
		parses(t, s+" >f", to(want, "> f"))
		parses(t, s+"<f", to(want, "< f"))
		parses(t, s+" >f <g >>h >f", to(want, "> f < g >> h > f"))
		parses(t, s+" >f; a", to(want, "> f"), a)
		parses(t, s+" >f && a", and(to(want, "> f"), a))
		parses(t, s+" >f | "+s+" <g", pipe(to(want, "> f"), to(want, "< g")))
		parses(t, "! "+s+" >f", not(to(want, "> f")))
		parses(t, "("+s+" >f) >g", to(sub(to(want, "> f")), "> g"))
		parses(t, "{ "+s+" >f }", group(to(want, "> f")))
		refuses(t, api.ErrSyntax, s+" >", s+" >f >", s+" >;", s+" >\nf", s+" >f g", s+" f", s+" a=1", s+" (a)", s+" "+s, s+" >f "+s, s+" fi", s+" >f }", s+" !", s+" )", s+" ;;", s+" &")
	}
	refuses(t, api.ErrSyntax, ">", "<", ">>", "a >", "a <", "a >>", "a > ;", "a >\nf", "> > f", "a >> > f", "a < < f", "a << f", "a <> f", "a > (f)", "a >&f", "a > | b", "a > && b", "(a >)", "> )", ">;", "a=1 >")
	// Ahead of a compound there is none: a command has begun, of which that would be the words.
	parses(t, ">f { a", to(cmd("{ a"), "> f"))
	parses(t, ">f case x in esac", to(cmd("case x in esac"), "> f"))
	refuses(t, api.ErrSyntax, ">f { a; }", ">f (a)", ">f if a; then b; fi")
}

func TestP901If(t *testing.T) {
	parses(t, "if a; then b; fi", when(a, b))
	parses(t, "if a\nthen b\nfi", when(a, b))
	parses(t, "if\n\na;\n\nthen\n\nb;\n\nfi", when(a, b))
	parses(t, "if a; b; then c; d; fi", when(list(a, b), list(c, d)))
	parses(t, "if a; then b; else c; d; fi", when(a, b, list(c, d)))
	parses(t, "if a; then b; else\n\nc\nfi", when(a, b, c))
	parses(t, "if a; then b; elif c; then d; fi", when(a, b, when(c, d)))
	parses(t, "if a; then b; elif\nc\nthen\nd\nelse\ne\nfi", when(a, b, when(c, d, e)))
	parses(t, "if a; then b; elif b; then c; elif c; then d; fi", when(a, b, when(b, c, when(c, d))))
	parses(t, "if a; then b; elif b; then c; elif c; then d; else e; fi", when(a, b, when(b, c, when(c, d, e))))
	parses(t, "if a; then b; elif c; d; then d; e; fi", when(a, b, when(list(c, d), list(d, e))))
	parses(t, "if a; then b; else if c; then d; fi; fi", when(a, b, when(c, d)))
	parses(t, "if a; then b; elif c; then d; fi >f", to(when(a, b, when(c, d)), "> f"))
	parses(t, "if a && b | c; then ! d; fi", when(and(a, pipe(b, c)), not(d)))
	parses(t, "if if a; then b; fi; then if c; then d; fi; fi", when(when(a, b), when(c, d)))
	// Behind a compound no sep is wanted.
	parses(t, "if (a) then (b) else (c) fi", when(sub(a), sub(b), sub(c)))
	parses(t, "if { a; } then { b; } elif { c; } then { d; } fi", when(group(a), group(b), when(group(c), group(d))))
	parses(t, "if (a) >f then (b) >g fi", when(to(sub(a), "> f"), to(sub(b), "> g")))
	parses(t, "if a; then if b; then c; fi fi", when(a, when(b, c)))
	refuses(t, api.ErrSyntax,
		"if", "if a", "if a;", "if a; then", "if a; then b", "if a; then b;", "if a; then b; else", "if a; then b; else c;", "if a; then b; elif", "if a; then b; elif c;", "if a; then b; elif c; then", "if a; then b; elif c; then d;",
		"if then b; fi", "if; then b; fi", "if ; a; then b; fi", "if a; fi", "if a; then fi", "if a; then ; fi", "if a; then b; else fi", "if a; then b; else; fi", "if a; then b; elif then c; fi", "if a; then b; elif c; fi", "if a; then b; elif c; then fi",
		"if a then b; fi", "if a; then b fi", "if a; then b; else c fi", "if a; else b; fi", "if a; elif b; then c; fi", "if a; then b; else c; else d; fi", "if a; then b; else c; elif d; then e; fi", "if a; then b; then c; fi", "if a; then b; fi fi", "if a; then b; done", "if a; do b; fi", "if a; then b; }", "if a; then b; )", "if a; then; b; fi", "if a;; then b; fi", "if a; then b;; fi", "if a &&; then b; fi", "if a; 'then' b; fi")
}

func TestP901Loops(t *testing.T) {
	for word, want := range map[string]func(a, b api.Cmd) api.Cmd{"while": while, "until": until} {
		parses(t, word+" a; do b; done", want(a, b))
		parses(t, word+" a\ndo b\ndone", want(a, b))
		parses(t, word+"\n\na;\n\ndo\n\nb;\n\ndone", want(a, b))
		parses(t, word+" a; b; do c; d; done", want(list(a, b), list(c, d)))
		parses(t, word+" ! a; do b && c; done", want(not(a), and(b, c)))
		parses(t, word+" (a) do { b; } done", want(sub(a), group(b)))
		parses(t, word+" a; do b; done >f", to(want(a, b), "> f"))
		parses(t, word+" "+word+" a; do b; done; do "+word+" c; do d; done done", want(want(a, b), want(c, d)))
		for _, rest := range []string{"", " a", " a;", " a; do", " a; do b", " a; do b;", " a; do done", " do b; done", "; do b; done", " ; a; do b; done", " a do b; done", " a; do b done", " a; b; done", " a; done", " a; do; b; done", " a; do ; done", " a; do b; fi", " a; then b; done", " a; do b; do c; done", " a; do b; done done", " a; do b; }", " a; do b; )", " a;; do b; done", " a; do b;; done", " a; do b; done &", " a; { b; }"} {
			refuses(t, api.ErrSyntax, word+rest)
		}
	}
	parses(t, "while until a; do b; done; do c; done", while(until(a, b), c))
}

func TestP901For(t *testing.T) {
	for _, s := range []string{"for i in x y; do b; done", "for i in x y\ndo b\ndone", "for i\n\nin x y;\n\ndo\n\nb;\n\ndone", "for i in x y\n\n\ndo b; done"} {
		parses(t, s, each("i x y", b))
	}
	parses(t, "for i in x; do b; c; done", each("i x", list(b, c)))
	parses(t, "for i in x; do (b) done", each("i x", sub(b)))
	for _, s := range []string{"for i in; do b; done", "for i in\ndo b; done", "for i\nin;\ndo b; done"} {
		parses(t, s, each("i", b))
	}
	for _, s := range []string{"for i do b; done", "for i; do b; done", "for i\ndo b; done", "for i;\n\ndo b; done", "for i\n\n\ndo\nb\ndone", "for i\n;do b; done", "for i\n\n;\n\ndo b; done"} {
		parses(t, s, each("i", b))
	}
	// Behind in all are words, names that begin commands, too; and a name may be one of these.
	parses(t, "for i in if then do done in ! { } esac; do b; done", each("i if then do done in ! { } esac", b))
	parses(t, "for i in a=1 b=2; do b; done", each("i a=1 b=2", b))
	parses(t, "for i in 'x y' \"$z\" *.c; do b; done", api.Cmd{Kind: api.CmdFor, Words: []string{"i", "'x y'", `"$z"`, "*.c"}, Kids: []api.Cmd{b}})
	parses(t, "for in in in; do b; done", each("in in", b))
	parses(t, "for do do b; done", each("do", b))
	parses(t, "for for in for; do for do do b; done; done", each("for for", each("do", b)))
	parses(t, "for i in x; do b; done >f", to(each("i x", b), "> f"))
	refuses(t, api.ErrSyntax,
		"for", "for i", "for i;", "for i in", "for i in x", "for i in x;", "for i in x; do", "for i in x; do b", "for i in x; do b;", "for i do", "for i; do b",
		"for\ni in x; do b; done", "for; do b; done", "for 1 in x; do b; done", "for a-b do b; done", "for 'i' in x; do b; done", "for a=1 in x; do b; done", "for $i in x; do b; done", "for ( in x; do b; done", "for i j in x; do b; done", "for i j; do b; done",
		"for i in x do b; done", "for i in x; b; done", "for i in x; do done", "for i in x; do; b; done", "for i in x;; do b; done", "for i in x; ; do b; done", "for i in x\n; do b; done", "for i in x & do b; done", "for i in x && do b; done", "for i in x | y; do b; done", "for i in (x); do b; done", "for i in >x; do b; done", "for i in x >y; do b; done", "for i in x; { b; }", "for i in x; do b; fi", "for i in x; do b done", "for i in x; do b; done done",
		"for i;; do b; done", "for i; ; do b; done", "for i;\n;do b; done", "for i; in x; do b; done", "for i & do b; done", "for i; b; done", "for i do done", "for i x; do b; done", "for i 'in' x; do b; done", "for i (x); do b; done", "for i >f; do b; done", "for i do b; )")
}

func TestP901Case(t *testing.T) {
	none := list()
	for _, s := range []string{"case x in esac", "case x in\nesac", "case x\n\nin\n\nesac"} {
		parses(t, s, which("x"))
	}
	for _, s := range []string{"case x in a) b;; esac", "case x in (a) b;; esac", "case x in a) b; esac", "case x in a) b\nesac", "case x in ( a ) b;\nesac", "case x in a) b;;esac", "case x\nin\n\na)\n\nb\n\n;;\n\nesac", "case x in a) b; ;; esac", "case x in a) b\n;; esac"} {
		parses(t, s, which("x", arm("a", b)))
	}
	for _, s := range []string{"case x in a) esac", "case x in (a) esac", "case x in a);; esac", "case x in a)\n\n;;\n\nesac", "case x in a)\nesac", "case x in a) ;;esac"} {
		parses(t, s, which("x", arm("a", none)))
	}
	parses(t, "case x in a) b; c;; esac", which("x", arm("a", list(b, c))))
	parses(t, "case x in a) b && c;; esac", which("x", arm("a", and(b, c))))
	parses(t, "case x in a|b|c) d;; esac", which("x", arm("a b c", d)))
	parses(t, "case x in (a | b) c;; esac", which("x", arm("a b", c)))
	parses(t, "case x in a) b;; c) d;; esac", which("x", arm("a", b), arm("c", d)))
	parses(t, "case x in a) b;;\n\nc) d\nesac", which("x", arm("a", b), arm("c", d)))
	parses(t, "case x in a);; b);; (c) esac", which("x", arm("a", none), arm("b", none), arm("c", none)))
	parses(t, "case x in a) (b) esac", which("x", arm("a", sub(b))))
	parses(t, "case x in (a) (b);; (c) { d; };; esac", which("x", arm("a", sub(b)), arm("c", group(d))))
	parses(t, "case x in a) case y in b) c;; esac esac", which("x", arm("a", which("y", arm("b", c)))))
	parses(t, "case x in a) case y in b) c;; esac;; d) e;; esac", which("x", arm("a", which("y", arm("b", c))), arm("d", e)))
	parses(t, "case x in a) b;; esac >f", to(which("x", arm("a", b)), "> f"))
	parses(t, "case x in a) b >f;; esac", which("x", arm("a", to(b, "> f"))))
	parses(t, "case \"$x\" in *.c|'a b') b;; esac", api.Cmd{Kind: api.CmdCase, Words: []string{`"$x"`}, Arms: []api.Arm{{Pats: []string{"*.c", "'a b'"}, Body: b}}})
	// Any word is a word or a pattern; esac alone, where an arm may begin, is the end.
	for _, word := range append(reserved(), "in", "a=1", "1") {
		parses(t, "case "+word+" in a) b;; esac", which(word, arm("a", b)))
		parses(t, "case x in ("+word+") b;; esac", which("x", arm(word, b)))
		parses(t, "case x in a|"+word+") b;; esac", which("x", arm("a "+word, b)))
		if word != "esac" {
			parses(t, "case x in "+word+") b;; esac", which("x", arm(word, b)))
			parses(t, "case x in a) b;; "+word+"|c) d; esac", which("x", arm("a", b), arm(word+" c", d)))
		}
	}
	parses(t, "case in in in) in; esac", which("in", arm("in", cmd("in"))))
	refuses(t, api.ErrSyntax, "case x in esac) b;; esac", "case x in a) b;; esac) c;; esac", "case x in esac esac")
	refuses(t, api.ErrSyntax,
		"case", "case x", "case x in", "case x in a", "case x in (a", "case x in a|", "case x in a|b", "case x in a)", "case x in a) b", "case x in a) b;", "case x in a) b;;", "case x in a) b;; c", "case x in a) b;; c)", "case x in a) b;; c) d;;",
		"case\nx in esac", "case in esac", "case x; in esac", "case x 'in' esac", "case x y in esac", "case x on esac", "case ( in esac", "case x in; esac", "case x esac", "case x in ;; esac", "case x in ) b;; esac", "case x in () b;; esac", "case x in (\na) b;; esac", "case x in a\n) b;; esac", "case x in a|\nb) c;; esac", "case x in |a) b;; esac", "case x in a||b) c;; esac", "case x in a|) b;; esac", "case x in a b) c;; esac", "case x in a b;; esac", "case x in (a|(b)) c;; esac", "case x in ((a) b;; esac", "case x in a)) b;; esac", "case x in a;; esac", "case x in a>b) c;; esac", "case x in a&b) c;; esac",
		"case x in a) b esac", "case x in a) ; esac", "case x in a) ;b;; esac", "case x in a) b;; ;; esac", "case x in a) b;;; esac", "case x in a) b;;;; esac", "case x in a) b; ; ;; esac", "case x in a) b;; ; esac", "case x in a) b &&;; esac", "case x in a) b | esac", "case x in a) b & esac", "case x in a) b;; esac esac", "case x in a) b; fi", "case x in a) fi;; esac", "case x in a) b; } esac", "case x in a) b ) esac",
		// Only the last one may stand without ;;.
		"case x in a) b\nc) d;; esac", "case x in a) b; c) d;; esac", "case x in a) b; (c) d;; esac", "case x in a) (b) c) d;; esac", "case x in a) b) c;; esac", "case x in (a) (b) c;; esac")
}

func TestP901Groups(t *testing.T) {
	for _, s := range []string{"(a)", "( a )", "(a;)", "(\na\n)", "(\n\na;\n\n)"} {
		parses(t, s, sub(a))
	}
	for _, s := range []string{"{ a; }", "{ a\n}", "{\na\n}", "{\n\na;\n\n}"} {
		parses(t, s, group(a))
	}
	parses(t, "(a;b)|{ c;d\n}", pipe(sub(list(a, b)), group(list(c, d))))
	parses(t, "((a))", sub(sub(a)))
	parses(t, "{ { a; } }", group(group(a)))
	parses(t, "{ (a) }", group(sub(a)))
	parses(t, "({ a; })", sub(group(a)))
	parses(t, "(a);(b)", sub(a), sub(b))
	parses(t, "{ a }; }", group(cmd("a }")))
	parses(t, "{a", cmd("{a"))
	parses(t, "{}", cmd("{}"))
	parses(t, "a {", cmd("a {"))
	parses(t, "a }", cmd("a }"))
	refuses(t, api.ErrSyntax, "(", ")", "()", "( )", "(\n)", "(;)", "(;a)", "(a", "(a;", "a)", "(a))", "((a)", "(a;;)", "(a &)", "(a &&)", "(a |)", "(fi)", "(a; fi)", "(a }", "{ a; )", "{", "}", "{ }", "{ ; }", "{ ;a; }", "{ a", "{ a;", "{ a }", "{a; }", "{ a;} b", "{ a; } }", "{ a;; }", "{ a; fi", "{ a; } b", "(a) b", "(a) (b)", "(a) { b; }", "a (", "a (b)", "'{' a; }", "{ a; '}'")
}

// Each of the words that begin or end something is nothing else where a command may begin.
func TestP901ReservedWords(t *testing.T) {
	begins := []string{"%s", "a; %s", "a\n%s", "a && %s", "a ||\n%s", "a | %s", "! %s", "(%s)", "{ %s; }", "if %s; then a; fi", "if a; then %s; fi", "if a; then b; else %s; fi", "if a; then b; elif %s; then c; fi", "while %s; do a; done", "until a; do %s; done", "for i do %s; done", "case x in a) %s;; b) c;; esac"}
	for _, word := range reserved() {
		for _, frame := range begins {
			s := strings.Replace(frame, "%s", word, 1)
			refuses(t, api.ErrSyntax, s)
		}
		// Behind a first word it is a word, also where it would end the list.
		for _, s := range []string{"a " + word, "a b " + word + " c", "a " + word + " " + word} {
			parses(t, s, cmd(s))
			parses(t, "("+s+")", sub(cmd(s)))
			parses(t, "! "+s+" | "+s, not(cmd(s), cmd(s)))
			parses(t, "if "+s+"; then "+s+"\nfi", when(cmd(s), cmd(s)))
			parses(t, "while "+s+"\ndo "+s+"; done", while(cmd(s), cmd(s)))
			parses(t, "case x in a) "+s+";; esac", which("x", arm("a", cmd(s))))
		}
		// Not just so, it is a word.
		for _, other := range []string{"'" + word + "'", `"` + word + `"`, `\` + word, word + "x", "x" + word, word + "''", strings.ToUpper(word) + "_", word + "$x"} {
			parses(t, other+" a", cmd(other+" a"))
			parses(t, "(a; "+other+")", sub(list(a, cmd(other))))
		}
		parses(t, "echo "+word, cmd("echo "+word))
	}
	parses(t, "f\\\nor i d\\\no b; don\\\ne", each("i", b))
	parses(t, "i\\\nf a; t\\\nhen b; f\\\ni", when(a, b))
	// All others are simple commands.
	for _, word := range []string{"in", "function", "select", "time", "[[", "]]", "[", "]", "coproc", "IF", "Then", "return", "exit", ":", ".", "{{", "}}", "!!", "-", "0"} {
		parses(t, word, cmd(word))
		parses(t, word+" a", cmd(word+" a"))
		parses(t, "(a; "+word+")", sub(list(a, cmd(word))))
	}
}

// form is a form of the grammar, as it stands and as it is told, with a place for another one in it.
type form struct {
	text string
	made func(api.Cmd) api.Cmd
}

// forms are those in which one compound is within another, so that each is one deeper.
func forms() []form {
	return []form{
		{"( % )", sub},
		{"{ % ; }", group},
		{"if % ; then b ; fi", func(x api.Cmd) api.Cmd { return when(x, b) }},
		{"if a ; then % ; fi", func(x api.Cmd) api.Cmd { return when(a, x) }},
		{"if a ; then b ; else % ; fi", func(x api.Cmd) api.Cmd { return when(a, b, x) }},
		{"if a ; then b ; elif % ; then c ; fi", func(x api.Cmd) api.Cmd { return when(a, b, when(x, c)) }},
		{"if a ; then b ; elif c ; then % ; else d ; fi", func(x api.Cmd) api.Cmd { return when(a, b, when(c, x, d)) }},
		{"if a ; then b ; elif c ; then d ; else % ; fi", func(x api.Cmd) api.Cmd { return when(a, b, when(c, d, x)) }},
		{"while % ; do b ; done", func(x api.Cmd) api.Cmd { return while(x, b) }},
		{"while a ; do % ; done", func(x api.Cmd) api.Cmd { return while(a, x) }},
		{"until % ; do b ; done", func(x api.Cmd) api.Cmd { return until(x, b) }},
		{"until a ; do % ; done", func(x api.Cmd) api.Cmd { return until(a, x) }},
		{"for i in x ; do % ; done", func(x api.Cmd) api.Cmd { return each("i x", x) }},
		{"for i do % ; done", func(x api.Cmd) api.Cmd { return each("i", x) }},
		{"case x in a ) % ;; esac", func(x api.Cmd) api.Cmd { return which("x", arm("a", x)) }},
		{"case x in a ) b ;; ( c | d ) % ; esac", func(x api.Cmd) api.Cmd { return which("x", arm("a", b), arm("c d", x)) }},
	}
}

func (f form) around(s string) string { return strings.Replace(f.text, "%", s, 1) }

// within are all things that can stand in a form.
func within() []form {
	more := []form{
		{"%", func(x api.Cmd) api.Cmd { return x }},
		{"% | b", func(x api.Cmd) api.Cmd { return pipe(x, b) }},
		{"a |\n%", func(x api.Cmd) api.Cmd { return pipe(a, x) }},
		{"! %", func(x api.Cmd) api.Cmd { return not(x) }},
		{"% && b", func(x api.Cmd) api.Cmd { return and(x, b) }},
		{"a ||\n%", func(x api.Cmd) api.Cmd { return or(a, x) }},
		{"% ; b", func(x api.Cmd) api.Cmd { return list(x, b) }},
		{"a\n%", func(x api.Cmd) api.Cmd { return list(a, x) }},
	}
	return append(more, forms()...)
}

func TestP901FormsWithinForms(t *testing.T) {
	for _, outer := range forms() {
		for _, inner := range within() {
			parses(t, outer.around(inner.around("a")), outer.made(inner.made(a)))
			parses(t, strings.ReplaceAll(outer.around(inner.around("a")), " ; ", "\n"), outer.made(inner.made(a)))
			for _, third := range forms() {
				parses(t, outer.around(inner.around(third.around("a"))), outer.made(inner.made(third.made(a))))
			}
		}
	}
}

// Every form without its end, and with something in it that can't be there.
func TestP901BrokenForms(t *testing.T) {
	for _, f := range forms() {
		tokens := strings.Split(f.around("a"), " ")
		for i := 1; i < len(tokens); i++ {
			start := strings.Join(tokens[:i], " ")
			refuses(t, api.ErrSyntax, start, start+"\n", start+" ;", start+" &", start+" )x", "( "+start+" )", "{ "+start+"\n}")
		}
		for i := range len(tokens) + 1 {
			put := func(s string) string { return strings.Join(slices.Insert(slices.Clone(tokens), i, s), " ") }
			refuses(t, api.ErrSyntax, put("&"), put("& &"), put("; ;"), put("&& &&"), put("| |"), put("|| ||"), put("> >"), put("; &&"), put("( )"))
			for _, s := range []string{")", "(", ";;", "|", "||", "&&", ";", "\n", "<", ">", "!", "{", "}", "a", "a=1", ";a", "\na", ">f", "fi", "then", "esac", "in", "do", "done", "if", "else"} {
				asThePlain(t, put(s))
			}
			if i < len(tokens) {
				asThePlain(t, strings.Join(slices.Delete(slices.Clone(tokens), i, i+1), " "))
			}
		}
	}
}

func TestP901StrayOperators(t *testing.T) {
	for _, s := range []string{")", ";;", "&", "a )", "a ;;", "a &", "a & b", "a;)", "a;;;", "a;&", "& a", ";; a", ") a", "a && )", "a | ;;", "! &", "a > )", "a=1 )", "a=1 &", ">f ;;", ">f &", "\n)", "\n;;", "\n&", "a\n)", "a\n;;", "a\n&", "a &\n", "& &", "a &; b", "a; & b", "(a &)", "{ a & }", "if a & then b; fi", "(a;;)", "(;;)", "{ a;; }", "a &&& b", ")(", "a;;b", "a\n;;\nb"} {
		refuses(t, api.ErrSyntax, s)
	}
	parses(t, `a \& \) \;\;`, cmd(`a \& \) \;\;`))
	parses(t, "a '&' ')'", cmd("a '&' ')'"))
}

// nested is n forms within one another, the first of them the outermost.
func nested(n int, inner string, want api.Cmd, of func(i int) form) (string, api.Cmd) {
	for i := n - 1; i >= 0; i-- {
		f := of(i)
		inner, want = f.around(inner), f.made(want)
	}
	return inner, want
}

func TestP901MaxDeep(t *testing.T) {
	all := forms()
	kinds := []func(i int) form{func(i int) form { return all[i%len(all)] }, func(i int) form { return all[(i*7+3)%len(all)] }}
	for _, f := range all {
		kinds = append(kinds, func(int) form { return f })
	}
	for _, of := range kinds {
		for _, n := range []int{1, 2, api.MaxDeep - 1, api.MaxDeep} {
			s, want := nested(n, "a", a, of)
			parses(t, s, want)
			parses(t, s+" >f", to(want, "> f"))
			// What stands around without being a compound does not count.
			parses(t, "! "+s+" | b && c", and(not(want, b), c))
			parses(t, "a; b && c; "+s, a, and(b, c), want)
		}
		for _, n := range []int{api.MaxDeep + 1, api.MaxDeep + 2, 2 * api.MaxDeep} {
			s, _ := nested(n, "a", a, of)
			refuses(t, api.ErrDeep, s, "a; "+s, s+"; a", "a | "+s, "! "+s, s+" >f")
		}
		most, want := nested(api.MaxDeep, "a", a, of)
		for _, f := range all {
			refuses(t, api.ErrDeep, f.around(most))
		}
		// One behind the other they are not within one another.
		parses(t, most+" ; "+most+"\n"+most, want, want, want)
		parses(t, most+" && "+most+" | "+most, and(want, pipe(want, want)))
		one, wantOne := nested(1, "a", a, of)
		parses(t, strings.Repeat(one+"\n", 3*api.MaxDeep), slices.Repeat([]api.Cmd{wantOne}, 3*api.MaxDeep)...)
		below, wantBelow := nested(api.MaxDeep-1, "a", a, of)
		parses(t, "( "+below+" ; "+below+" )", sub(list(wantBelow, wantBelow)))
	}
	// The deepest of all.
	deep := strings.Repeat("(", 2498) + "a" + strings.Repeat(")", 2498)
	refuses(t, api.ErrDeep, deep)
	refuses(t, api.ErrSyntax, deep+")")
}

// An elif is of its if's compound; an if behind an else is a compound of its own.
func TestP901ElifsAreNotDeep(t *testing.T) {
	want := when(a, b)
	for range 500 {
		want = when(a, b, want)
	}
	s := "if a; then b; " + strings.Repeat("elif a; then b; ", 500) + "fi"
	parses(t, s, want)
	most, wantMost := nested(api.MaxDeep-1, "a", a, func(int) form { return forms()[0] })
	parses(t, "if a; then b; elif b; then c; elif c; then "+most+"; fi", when(a, b, when(b, c, when(c, wantMost))))
	refuses(t, api.ErrDeep, "if a; then b; elif b; then c; elif c; then ("+most+"); fi", "(if a; then b; elif b; then "+most+"; fi)")
	for n, want := range map[int]api.Errno{api.MaxDeep: api.OK, api.MaxDeep + 1: api.ErrDeep} {
		s := strings.Repeat("if a; then b; else ", n) + "c; " + strings.Repeat("fi; ", n)
		if _, e := Parse(s); e != want {
			t.Errorf("%d ifs behind elses: %d, not %d", n, e, want)
		}
	}
}

// Neither what is within words nor what is no compound counts.
func TestP901WhatIsNotDeep(t *testing.T) {
	word := strings.Repeat("$(", api.MaxDeep) + "a" + strings.Repeat(")", api.MaxDeep)
	most, want := nested(api.MaxDeep, word, cmd(word), func(i int) form { return forms()[i%2] })
	parses(t, most, want)
	long := "a" + strings.Repeat(" | a", 200)
	parses(t, long, pipe(slices.Repeat([]api.Cmd{a}, 201)...))
	parses(t, "a '"+strings.Repeat("(", 100)+"'", cmd("a '"+strings.Repeat("(", 100)+"'"))
	parses(t, "a "+strings.Repeat("{ if ", 100), cmd("a "+strings.Repeat("{ if ", 100)))
}

// ErrSyntax is named ahead of ErrDeep: it is told wherever it is.
func TestP901SyntaxComesAheadOfDeep(t *testing.T) {
	for _, f := range forms() {
		deep, _ := nested(api.MaxDeep+1, "a", a, func(int) form { return f })
		refuses(t, api.ErrDeep, deep)
		refuses(t, api.ErrSyntax, deep+" )", deep+" &", deep+"; fi", "fi; "+deep, "a &\n"+deep, deep+" &&", deep+" >", "( "+deep, deep+" b")
		broken, _ := nested(api.MaxDeep+1, "a &", a, func(int) form { return f })
		refuses(t, api.ErrSyntax, broken)
		open := f.text[:strings.Index(f.text, "%")]
		refuses(t, api.ErrSyntax, strings.Repeat(open, api.MaxDeep+1), strings.Repeat(open, api.MaxDeep+1)+"a", strings.Repeat(open, 3*api.MaxDeep))
		refuses(t, api.ErrQuote, deep+" '", "' "+deep)
	}
}

// texts calls f with all texts of at most most of the tokens.
func texts(tokens []string, most int, f func(string)) {
	var more func(s string, left int)
	more = func(s string, left int) {
		f(s)
		if left > 0 {
			for _, x := range tokens {
				more(s+" "+x, left-1)
			}
		}
	}
	more("", most)
}

func TestP901AllShortTexts(t *testing.T) {
	everything := append(reserved(), "a", "in", "x=1", ";", ";;", "&", "&&", "|", "||", "(", ")", "<", ">>", "\n")
	for _, x := range []struct {
		ahead, tokens string
		most          int
	}{
		{"", "a ; N && | !", 5},
		{"", "a ( ) ; { }", 5},
		{"", "a x=1 > ( ) |", 5},
		{"if a ; then b", "a ; N fi else elif then", 5},
		{"if ( a )", "( ) ; a then fi else", 5},
		{"while a", "a ; N do done (", 5},
		{"until ( a )", "a ; do done {", 5},
		{"for i", "in a ; N do done", 6},
		{"for", "i in do ; a done", 6},
		{"case x", "in a ) esac N", 5},
		{"case x in", "a ( ) | ;; esac ;", 5},
		{"case x in a ) b", "a ( ) ;; esac ; N", 5},
		{"case x in a ) ( b )", "a ( ) ;; esac > f", 4},
		{"( a ) > f", "a ) ( > ; &&", 4},
	} {
		t.Run("", func(t *testing.T) {
			t.Parallel()
			errors := map[api.Errno]int{}
			texts(strings.Fields(x.tokens), x.most, func(s string) { errors[asThePlain(t, x.ahead+strings.ReplaceAll(s, "N", "\n"))]++ })
			if errors[api.OK] == 0 || errors[api.ErrSyntax] == 0 {
				t.Errorf("of the texts behind %q: %v", x.ahead, errors)
			}
		})
	}
	texts(everything, 3, func(s string) { asThePlain(t, s) })
}

// grower makes commands, and texts that they stand for.
type grower struct {
	*rand.Rand
	out []string
}

func (g *grower) add(tokens ...string) { g.out = append(g.out, tokens...) }

func (g *grower) pick(l ...string) string { return l[g.Intn(len(l))] }

func (g *grower) lines() {
	for range max(0, g.Intn(5)-3) {
		g.add(g.pick("\n", "# ; fi\n"))
	}
}

func (g *grower) sep() {
	g.add(g.pick(";", "\n"))
	g.lines()
}

// list makes a body; a sep must stand at its end behind a simple command, for a word behind that would be one of its words.
func (g *grower) list(deep int, sepAtEnd bool) api.Cmd {
	x := api.Cmd{Kind: api.CmdList}
	for n := 1 + g.Intn(2); ; g.sep() {
		k, simple := g.andor(deep)
		x.Kids = append(x.Kids, k)
		if n--; n == 0 {
			if simple && sepAtEnd || g.Intn(3) == 0 {
				g.sep()
			}
			break
		}
	}
	if len(x.Kids) == 1 {
		return x.Kids[0]
	}
	return x
}

// body is a list with lines ahead, up to a word.
func (g *grower) body(deep int, end string) api.Cmd {
	g.lines()
	x := g.list(deep, end != ")")
	g.add(end)
	return x
}

func (g *grower) andor(deep int) (api.Cmd, bool) {
	x, simple := g.pipe(deep)
	for g.Intn(4) == 0 {
		op := g.pick("&&", "||")
		g.add(op)
		g.lines()
		var y api.Cmd
		y, simple = g.pipe(deep)
		if op == "&&" {
			x = and(x, y)
		} else {
			x = or(x, y)
		}
	}
	return x, simple
}

func (g *grower) pipe(deep int) (api.Cmd, bool) {
	x := api.Cmd{Kind: api.CmdPipe, Not: g.Intn(6) == 0}
	if x.Not {
		g.add("!")
	}
	k, simple := g.command(deep)
	x.Kids = append(x.Kids, k)
	for g.Intn(5) == 0 {
		g.add("|")
		g.lines()
		k, simple = g.command(deep)
		x.Kids = append(x.Kids, k)
	}
	if len(x.Kids) == 1 && !x.Not {
		return x.Kids[0], simple
	}
	return x, simple
}

func (g *grower) redirs(x *api.Cmd, odds int) {
	for g.Intn(odds) == 0 {
		r := api.Redir{Op: g.pick("<", ">", ">>"), Word: g.pick("f", "$g", "if", "}", "'h i'", "a=1")}
		g.add(r.Op, r.Word)
		x.Redirs = append(x.Redirs, r)
	}
}

func (g *grower) command(deep int) (api.Cmd, bool) {
	if deep == 0 || g.Intn(3) == 0 {
		return g.simple(), true
	}
	x := g.compound(deep - 1)
	g.redirs(&x, 5)
	return x, false
}

func (g *grower) simple() api.Cmd {
	x := api.Cmd{Kind: api.CmdSimple}
	for len(x.Assigns)+len(x.Words)+len(x.Redirs) == 0 {
		for g.redirs(&x, 8); g.Intn(4) == 0; g.redirs(&x, 8) {
			w := g.pick("a=", "_b1=$(c; d)", "if='fi'", "X=y=z")
			g.add(w)
			x.Assigns = append(x.Assigns, w)
		}
		begun := len(x.Assigns)+len(x.Redirs) > 0
		for range g.Intn(4) {
			w := g.pick("a", "'b c'", "1x=2", "in", "\"$(d)\"", "{e}")
			if begun && g.Intn(2) == 0 {
				w = reserved()[g.Intn(len(reserved()))]
			} else if len(x.Words) > 0 {
				w = g.pick("a=1", "-n", "!", "$x", "\\;", w)
			}
			g.add(w)
			x.Words = append(x.Words, w)
			begun = true
			g.redirs(&x, 8)
		}
	}
	return x
}

func (g *grower) compound(deep int) api.Cmd {
	switch g.Intn(7) {
	case 0:
		g.add("(")
		return sub(g.body(deep, ")"))
	case 1:
		g.add("{")
		return group(g.body(deep, "}"))
	case 2:
		g.add("if")
		return g.choice(deep)
	case 3:
		g.add("while")
		return while(g.body(deep, "do"), g.body(deep, "done"))
	case 4:
		g.add("until")
		return until(g.body(deep, "do"), g.body(deep, "done"))
	case 5:
		return g.loop(deep)
	}
	return g.cases(deep)
}

func (g *grower) choice(deep int) api.Cmd {
	x := when(g.body(deep, "then"))
	switch g.Intn(3) {
	case 0:
		x.Kids = append(x.Kids, g.body(deep, "fi"))
	case 1:
		x.Kids = append(x.Kids, g.body(deep, "else"), g.body(deep, "fi"))
	case 2:
		x.Kids = append(x.Kids, g.body(deep, "elif"), g.choice(deep))
	}
	return x
}

func (g *grower) loop(deep int) api.Cmd {
	x := api.Cmd{Kind: api.CmdFor, Words: []string{g.pick("i", "_", "in", "do", "x9")}}
	g.add("for", x.Words[0])
	g.lines()
	if g.Intn(2) == 0 {
		g.add("in")
		for range g.Intn(3) {
			w := g.pick("a", "do", "in", "b=c", "'d e'", "done")
			g.add(w)
			x.Words = append(x.Words, w)
		}
		g.sep()
	} else if g.Intn(2) == 0 {
		g.sep()
	}
	g.add("do")
	x.Kids = []api.Cmd{g.body(deep, "done")}
	return x
}

func (g *grower) cases(deep int) api.Cmd {
	x := which(g.pick("x", "in", "esac", "'y z'"))
	g.add("case", x.Words[0])
	g.lines()
	g.add("in")
	g.lines()
	for n := g.Intn(3); n > 0; n-- {
		x.Arms = append(x.Arms, g.arm(deep, n == 1))
	}
	g.add("esac")
	return x
}

func (g *grower) arm(deep int, last bool) api.Arm {
	first := g.pick("a", "*", "if", "'b c'")
	if g.Intn(2) == 0 {
		g.add("(")
		first = g.pick(first, "esac")
	}
	x := api.Arm{Pats: []string{first}, Body: list()}
	g.add(first)
	for g.Intn(3) == 0 {
		w := g.pick("d", "esac", "?")
		g.add("|", w)
		x.Pats = append(x.Pats, w)
	}
	g.add(")")
	g.lines()
	ended := !last || g.Intn(2) == 0
	if g.Intn(4) > 0 {
		x.Body = g.list(deep, !ended)
	}
	if ended {
		g.add(";;")
		g.lines()
	}
	return x
}

// grown is a script and what it is told as.
func grown(r *rand.Rand, deep int) ([]string, api.Cmd) {
	g := &grower{Rand: r}
	g.lines()
	x := g.list(deep, false)
	if x.Kind != api.CmdList {
		x = list(x)
	}
	return g.out, x
}

func TestP901Grown(t *testing.T) {
	r := rand.New(rand.NewSource(901))
	for i := range 9000 {
		tokens, want := grown(r, 1+i%3)
		if len(tokens) > api.MaxWords/2 {
			continue
		}
		s := strings.Join(tokens, " ")
		if got, e := Parse(s); e != api.OK || told(got) != told(want) {
			t.Fatalf("Parse of %q: %s, %d, not %s", s, told(got), e, told(want))
		}
		if len(tokens) < 60 && i%20 == 0 {
			asThePlain(t, s)
		}
	}
}

// Scripts with a token that is gone, twice there, in another's place, or put in.
func TestP901Spoilt(t *testing.T) {
	r := rand.New(rand.NewSource(9011))
	more := append(reserved(), "a", "in", "x=1", ";", ";;", "&", "&&", "|", "||", "(", ")", "<", ">", "\n")
	errors := map[api.Errno]int{}
	for range 12000 {
		tokens, _ := grown(r, 2)
		if len(tokens) > 40 {
			continue
		}
		for range 1 + r.Intn(2) {
			at := r.Intn(len(tokens) + 1)
			switch kind := r.Intn(4); {
			case kind == 0 || at == len(tokens):
				tokens = slices.Insert(tokens, at, more[r.Intn(len(more))])
			case kind == 1:
				tokens = slices.Delete(tokens, at, at+1)
			case kind == 2:
				tokens[at] = more[r.Intn(len(more))]
			case kind == 3:
				other := r.Intn(len(tokens))
				tokens[at], tokens[other] = tokens[other], tokens[at]
			}
		}
		errors[asThePlain(t, strings.Join(tokens, " "))]++
	}
	if errors[api.OK] < 500 || errors[api.ErrSyntax] < 500 {
		t.Errorf("of the texts: %v", errors)
	}
}

func TestP901Faults(t *testing.T) {
	err := error(&fault{3, api.ErrDeep})
	if !errors.Is(err, api.ErrDeep) || errors.Is(err, api.ErrSyntax) || number(err) != api.ErrDeep {
		t.Error("a fault does not tell its number")
	}
	if err.Error() != "3: "+api.ErrDeep.Error() {
		t.Errorf("a fault tells %q", err.Error())
	}
}

// strs tells all texts of a command.
func strs(x api.Cmd) []string {
	l := slices.Concat(x.Assigns, x.Words)
	for _, r := range x.Redirs {
		l = append(l, r.Op, r.Word)
	}
	for _, k := range x.Kids {
		l = append(l, strs(k)...)
	}
	for _, y := range x.Arms {
		l = append(append(l, y.Pats...), strs(y.Body)...)
	}
	return l
}

func share(a, b string) bool {
	if a == "" || b == "" {
		return false
	}
	p, q := uintptr(unsafe.Pointer(unsafe.StringData(a))), uintptr(unsafe.Pointer(unsafe.StringData(b)))
	return p < q+uintptr(len(b)) && q < p+uintptr(len(a))
}

// grow puts something behind each list of a command, into its spare room where there is some.
func grow(x api.Cmd) {
	_ = append(x.Assigns, "X")
	_ = append(x.Words, "X")
	_ = append(x.Redirs, api.Redir{Op: "X", Word: "X"})
	_ = append(x.Kids, cmd("X"))
	_ = append(x.Arms, arm("X", cmd("X")))
	for _, k := range x.Kids {
		grow(k)
	}
	for _, y := range x.Arms {
		_ = append(y.Pats, "X")
		grow(y.Body)
	}
}

// wreck does away with all that stands in a command's lists, and in their spare room.
func wreck(x api.Cmd) {
	for _, k := range x.Kids {
		wreck(k)
	}
	for _, y := range x.Arms {
		clear(y.Pats[:cap(y.Pats)])
		wreck(y.Body)
	}
	clear(x.Assigns[:cap(x.Assigns)])
	clear(x.Words[:cap(x.Words)])
	clear(x.Redirs[:cap(x.Redirs)])
	clear(x.Kids[:cap(x.Kids)])
	clear(x.Arms[:cap(x.Arms)])
}

func TestP902NewMemory(t *testing.T) {
	samples := []string{"word", "a=1 b=2 c d e >f <g >>h", "if aa; then bb; elif cc; then dd; else ee; fi >ff", "for ii in x y z; do aa; bb; cc; done", "case word in (aa|bb|cc) dd; ee;; ff) esac >g", "aa && bb || cc | dd | ee; ! ff", "while (aa; bb) do { cc; dd; } done <ee"}
	r := rand.New(rand.NewSource(902))
	for range 200 {
		tokens, _ := grown(r, 2)
		samples = append(samples, strings.Join(tokens, " "))
	}
	for _, s := range samples {
		s = strings.Clone(s)
		was := strings.Clone(s)
		one, _ := Parse(s)
		two, _ := Parse(s)
		before := told(two)
		texts := strs(one)
		for i, x := range texts {
			for _, y := range slices.Concat(texts[i+1:], strs(two), []string{s}) {
				if share(x, y) {
					t.Errorf("the text %q of %.60q shares its memory with %.20q", x, s, y)
				}
			}
		}
		if grow(one); told(one) != before {
			t.Errorf("two lists of an answer share their memory: %.200s, not %.200s", told(one), before)
		}
		if wreck(one); told(two) != before || s != was {
			t.Errorf("two answers share their memory: %.200s, not %.200s", told(two), before)
		}
		if three, e := Parse(s); e != api.OK || told(three) != before {
			t.Errorf("Parse of %.60q once more: %.200s, %d, not %.200s", s, told(three), e, before)
		}
	}
}

// What was asked before, an error among it, is not to be seen in an answer.
func TestP902HangsOnTheTextAlone(t *testing.T) {
	texts := []string{"", "a b", "'a", "a &", "(a; b) >f", strings.Repeat("(", 61) + "a" + strings.Repeat(")", 61), strings.Repeat("(", 60), strings.Repeat("a ", api.MaxWords), "if a; then b; fi", "if a; then (b", "case x in a) b;; esac", "for i in x; do y", "! a | b && c"}
	answer := func(s string) string {
		x, e := Parse(s)
		return fmt.Sprint(int(e), " ", told(x))
	}
	var want []string
	for _, s := range texts {
		want = append(want, answer(s))
	}
	for i := range texts {
		for j := range texts {
			_, _ = Parse(texts[i])
			if got := answer(texts[j]); got != want[j] {
				t.Fatalf("Parse of %.40q behind %.40q: %.100s, not %.100s", texts[j], texts[i], got, want[j])
			}
		}
	}
	var all sync.WaitGroup
	got := make([]string, len(texts))
	for i, s := range texts {
		all.Go(func() {
			for range 20 {
				got[i] = answer(s)
			}
		})
	}
	all.Wait()
	if !slices.Equal(got, want) {
		t.Errorf("at the same time: %.300q, not %.300q", got, want)
	}
}

func FuzzParse(f *testing.F) {
	f.Add("a=1 b c >d && e | f; ! g")
	f.Add("if a; then b; elif c; then d; else e; fi")
	f.Add("case x in (a|b) c;; *) for i in j; do k; done; esac")
	f.Fuzz(func(t *testing.T, s string) {
		if len(s) < 100 {
			asThePlain(t, s)
		}
	})
}
