package lex

import (
	"fmt"
	"math/rand"
	"slices"
	"strings"
	"sync"
	"testing"
	"unsafe"

	"anvil/api"
)

// Short forms of tokens.
func word(s string) api.Token { return api.Token{Kind: api.TokWord, Text: s} }
func op(s string) api.Token   { return api.Token{Kind: api.TokOp, Text: s} }

var (
	newline = api.Token{Kind: api.TokNewline, Text: "\n"}
	end     = api.Token{Kind: api.TokEnd}
)

// told writes tokens out.
func told(l []api.Token) string {
	var b strings.Builder
	for _, x := range l {
		fmt.Fprintf(&b, "%d %q | ", x.Kind, x.Text)
	}
	return b.String()
}

// lexes asks for these tokens, and a TokEnd behind them.
func lexes(t *testing.T, s string, want ...api.Token) {
	t.Helper()
	want = append(want, end)
	if got, e := Lex(s); e != api.OK || !slices.Equal(got, want) {
		t.Errorf("Lex of %.200q: %.400s, %d, not %.400s", s, told(got), e, told(want))
	}
}

// oneWord asks that s is a single word, as it stands, also where other tokens stand around it.
func oneWord(t *testing.T, s string) {
	t.Helper()
	lexes(t, s, word(s))
	lexes(t, " "+s+"\t", word(s))
	lexes(t, "a "+s+" \n", word("a"), word(s), newline)
	lexes(t, ";"+s+";", op(";"), word(s), op(";"))
	lexes(t, "("+s+")", op("("), word(s), op(")"))
	lexes(t, "a"+s+"b;c", word("a"+s+"b"), op(";"), word("c"))
	lexes(t, s+s, word(s+s))
}

// refuses asks for that error, and nothing beside it.
func refuses(t *testing.T, want api.Errno, s string) {
	t.Helper()
	if l, e := Lex(s); e != want || len(l) != 0 {
		t.Errorf("Lex of %d bytes %.60q: %.200s, %d, not %d", len(s), s, told(l), e, want)
	}
}

// counts asks that s has n tokens, the TokEnd among them.
func counts(t *testing.T, s string, n int) {
	t.Helper()
	if l, e := Lex(s); e != api.OK || len(l) != n {
		t.Errorf("Lex of %d bytes %.60q: %d tokens, %d, not %d", len(s), s, len(l), e, n)
	}
}

// plainThing tells how many bytes the thing has that s begins with, where depth things are open around it. It goes into what is within by itself, where the lexer keeps a list.
func plainThing(s string, depth int) (int, api.Errno) {
	switch {
	case s[0] == '\'':
		n := strings.Index(s[1:], "'")
		if n < 0 {
			return 0, api.ErrQuote
		}
		return n + 2, api.OK
	case s[0] == '\\':
		return min(2, len(s)), api.OK
	case s[0] == '"':
		return plainWithin(s, 1, '"', depth, "'(")
	case s[0] == '`':
		return plainWithin(s, 1, '`', depth, "'\"$(")
	case strings.HasPrefix(s, "$("):
		return plainWithin(s, 2, ')', depth, "")
	case strings.HasPrefix(s, "${"):
		return plainWithin(s, 2, '}', depth, "(")
	}
	return 1, api.OK
}

// plainWithin goes from at on up to the byte stop; the bytes of plain begin nothing there.
func plainWithin(s string, at int, stop byte, depth int, plain string) (int, api.Errno) {
	if depth++; depth > api.MaxDeep {
		return 0, api.ErrDeep
	}
	for at < len(s) && s[at] != stop {
		n, e := 1, api.OK
		if strings.IndexByte(plain, s[at]) >= 0 {
			// one byte, whatever it is elsewhere
		} else if s[at] == '(' {
			n, e = plainWithin(s[at:], 1, ')', depth, "")
		} else {
			n, e = plainThing(s[at:], depth)
		}
		if e != api.OK {
			return 0, e
		}
		at += n
	}
	if at == len(s) {
		return 0, api.ErrQuote
	}
	return at + 1, api.OK
}

// plainWord tells how many bytes the word has that s begins with.
func plainWord(s string) (int, api.Errno) {
	at := 0
	for at < len(s) && !strings.ContainsAny(s[at:at+1], " \t\n;&|()<>") {
		n, e := plainThing(s[at:], 0)
		if e != api.OK {
			return 0, e
		}
		at += n
	}
	return at, api.OK
}

// plainJoined drops each \ with a byte 10 behind it, in one go from the left.
func plainJoined(s string) string {
	var b []byte
	for i := 0; i < len(s); i++ {
		if s[i] == '\\' && i+1 < len(s) && s[i+1] == '\n' {
			i++
			continue
		}
		b = append(b, s[i])
	}
	return string(b)
}

// plainToken tells the token that s begins with, where no blank and no comment is.
func plainToken(s string) (api.Token, api.Errno) {
	if s == "" {
		return end, api.OK
	}
	if s[0] == '\n' {
		return newline, api.OK
	}
	for _, o := range []string{";;", "&&", "||", ">>", ";", "&", "|", "(", ")", "<", ">"} {
		if strings.HasPrefix(s, o) {
			return op(o), api.OK
		}
	}
	n, e := plainWord(s)
	if e != api.OK {
		return api.Token{}, e
	}
	return word(s[:n]), api.OK
}

// plainLex is a second telling of P801.
func plainLex(s string) ([]api.Token, api.Errno) {
	if len(s) > api.MaxText {
		return nil, api.ErrLong
	}
	s = plainJoined(s)
	var l []api.Token
	for {
		s = strings.TrimLeft(s, " \t")
		if strings.HasPrefix(s, "#") {
			for s != "" && s[0] != '\n' {
				s = s[1:]
			}
		}
		x, e := plainToken(s)
		if e != api.OK {
			return nil, e
		}
		if l = append(l, x); len(l) > api.MaxWords {
			return nil, api.ErrLong
		}
		if x == end {
			return l, api.OK
		}
		s = s[len(x.Text):]
	}
}

// asThePlain asks that s is told as the second telling has it, and tells the error.
func asThePlain(t *testing.T, s string) api.Errno {
	t.Helper()
	got, e := Lex(s)
	want, f := plainLex(s)
	if e != f || !slices.Equal(got, want) {
		t.Fatalf("Lex of %.300q: %.400s, %d, not %.400s, %d", s, told(got), e, told(want), f)
	}
	return e
}

func TestP801Examples(t *testing.T) {
	lexes(t, `a 'b c'"d";e&&f>g # h`, word("a"), word(`'b c'"d"`), op(";"), word("e"), op("&&"), word("f"), op(">"), word("g"))
	lexes(t, "$(a (b))c", word("$(a (b))c"))
	refuses(t, api.ErrQuote, "'a")
}

func TestP801NoTokens(t *testing.T) {
	for _, s := range []string{"", " ", "\t", " \t \t ", "#", "# a b ; 'c", "  # \"", "\\\n", "\\\n\\\n", " \\\n\t", "#\\\n'", strings.Repeat(" ", api.MaxText)} {
		lexes(t, s)
	}
}

func TestP801Blanks(t *testing.T) {
	for _, blank := range []string{" ", "\t", "  ", " \t", "\t\t \t"} {
		lexes(t, "a"+blank+"b", word("a"), word("b"))
		lexes(t, blank+"a"+blank+"b"+blank, word("a"), word("b"))
		lexes(t, "a"+blank+";"+blank+"b", word("a"), op(";"), word("b"))
		lexes(t, "a"+blank+"\n"+blank+"b", word("a"), newline, word("b"))
		lexes(t, "&"+blank+"&"+blank+";"+blank+";", op("&"), op("&"), op(";"), op(";"))
		lexes(t, ">"+blank+">"+blank+"|"+blank+"|", op(">"), op(">"), op("|"), op("|"))
	}
}

func TestP801Newlines(t *testing.T) {
	lexes(t, "\n", newline)
	lexes(t, "\n\n\n", newline, newline, newline)
	lexes(t, "a\nb", word("a"), newline, word("b"))
	lexes(t, "a\n \n\tb\n", word("a"), newline, newline, word("b"), newline)
	lexes(t, "a;\nb&&\nc", word("a"), op(";"), newline, word("b"), op("&&"), newline, word("c"))
	lexes(t, ";\n;", op(";"), newline, op(";"))
}

// Every byte but those that the chapter names is a word's, wherever it stands.
func TestP801EveryByte(t *testing.T) {
	for c := range 256 {
		one := string([]byte{byte(c)})
		asThePlain(t, one)
		asThePlain(t, "a"+one+"b")
		asThePlain(t, "a "+one+" b")
		switch {
		case strings.Contains(" \t", one):
			lexes(t, "a"+one+"b", word("a"), word("b"))
		case one == "\n":
			lexes(t, "a"+one+"b", word("a"), newline, word("b"))
		case strings.Contains(";&|()<>", one):
			lexes(t, "a"+one+"b", word("a"), op(one), word("b"))
		case strings.Contains("'\"`", one):
			refuses(t, api.ErrQuote, "a"+one+"b")
		default:
			lexes(t, "a"+one+"b", word("a"+one+"b"))
		}
		if !strings.Contains("\n", one) {
			lexes(t, "a\\"+one+"b", word("a\\"+one+"b"))
		}
		if !strings.Contains("'", one) {
			oneWord(t, "'"+one+"'")
		}
	}
	for _, s := range []string{"\r", "\v", "\f", "\x00", "\x85", "\xa0", "\xc2\xa0", "\u2028", "\xff\xfe", "é", "é"[:1]} {
		oneWord(t, s)
	}
}

func TestP801Comments(t *testing.T) {
	lexes(t, "#a")
	lexes(t, "#a\n", newline)
	lexes(t, "#a\nb", newline, word("b"))
	lexes(t, "#\n#\n", newline, newline)
	lexes(t, "# a # b\n# c", newline)
	lexes(t, "a #b", word("a"))
	lexes(t, "a\t#b\nc", word("a"), newline, word("c"))
	lexes(t, "a #b\n #c\nd", word("a"), newline, newline, word("d"))
	// All is passed over, quotes and backslashes, too.
	lexes(t, "#'\"`$(${\\ \t;&|()<>\na", newline, word("a"))
	lexes(t, "a #\\", word("a"))
	lexes(t, "#"+strings.Repeat("$(", 100)+"\nb", newline, word("b"))
	for _, o := range operators() {
		lexes(t, o+"#b;c", op(o))
		lexes(t, o+"#b\nc", op(o), newline, word("c"))
		lexes(t, "a"+o+"# b", word("a"), op(o))
		lexes(t, "a#"+o, word("a#"), op(o))
	}
	// Within a word it is a byte like any.
	for _, s := range []string{"a#", "a#b", "a##", "'a'#b", `"a"#b`, "''#", "`a`#b", "$(a)#b", "${a}#b", `\##`, "$#", "é#", "\\ #", "'#'", "'# a'", `"# a"`, "`# a`", "$(# a)", "$(a # b)", "${#a}", "${a # b}"} {
		oneWord(t, s)
	}
	lexes(t, `\#a b`, word(`\#a`), word("b"))
	lexes(t, "a#b #c\nd#", word("a#b"), newline, word("d#"))
	// A comment that would end its line does not, where the line goes on.
	lexes(t, "#a\\\nb\nc", newline, word("c"))
	lexes(t, "a\\\n#b", word("a#b"))
	lexes(t, "a \\\n#b", word("a"))
	lexes(t, "\\\n#b")
}

func operators() []string {
	return []string{";", ";;", "&", "&&", "|", "||", "(", ")", "<", ">", ">>"}
}

func TestP801Operators(t *testing.T) {
	for _, o := range operators() {
		lexes(t, o, op(o))
		lexes(t, "a"+o, word("a"), op(o))
		lexes(t, o+"a", op(o), word("a"))
		lexes(t, "a"+o+"b", word("a"), op(o), word("b"))
		lexes(t, " a "+o+" b ", word("a"), op(o), word("b"))
		lexes(t, "'a'"+o+`"b"`, word("'a'"), op(o), word(`"b"`))
		lexes(t, o+"\n"+o, op(o), newline, op(o))
		// None is one where it is quoted.
		for _, s := range []string{"'" + o + "'", `"` + o + `"`, "`" + o + "`", "${" + o + "}"} {
			oneWord(t, s)
		}
	}
	lexes(t, ";;;", op(";;"), op(";"))
	lexes(t, ";;;;;", op(";;"), op(";;"), op(";"))
	lexes(t, "&&&", op("&&"), op("&"))
	lexes(t, "|||", op("||"), op("|"))
	lexes(t, ">>>", op(">>"), op(">"))
	lexes(t, "<<", op("<"), op("<"))
	lexes(t, "<<<", op("<"), op("<"), op("<"))
	lexes(t, "((", op("("), op("("))
	lexes(t, "))", op(")"), op(")"))
	lexes(t, "()", op("("), op(")"))
	lexes(t, "<>", op("<"), op(">"))
	lexes(t, "><", op(">"), op("<"))
	lexes(t, ">&", op(">"), op("&"))
	lexes(t, "&>>&&", op("&"), op(">>"), op("&&"))
	lexes(t, ";&|;", op(";"), op("&"), op("|"), op(";"))
	lexes(t, ";;&|||>>", op(";;"), op("&"), op("||"), op("|"), op(">>"))
	lexes(t, "a>>b<c", word("a"), op(">>"), word("b"), op("<"), word("c"))
	// No other byte is an operator here.
	for _, s := range []string{"{", "}", "{}", "!", "!a", "a!", "=", "a=b", "*", "?", "[", "]", "~", "%", "2", ":", ",", "@", "^", "-", "+", "/"} {
		oneWord(t, s)
	}
	lexes(t, "2>a", word("2"), op(">"), word("a"))
	lexes(t, "{ a; }", word("{"), word("a"), op(";"), word("}"))
	for _, s := range shortTexts(";&|()<>", 5) {
		asThePlain(t, s)
	}
}

func TestP801SingleQuotes(t *testing.T) {
	for _, s := range []string{"''", "'a'", "'a b'", "' '", "'\n'", "'\t;&|()<>#'", `'"'`, "'`'", "'$('", "'${'", `'\'`, `'a\'`, `'\\'`, "'$(a'", "'a''b'", "''''", "'a'b'c'", `'a'"b"`, `a'b'c`} {
		oneWord(t, s)
	}
	lexes(t, `'a\' 'b'`, word(`'a\'`), word("'b'"))
	lexes(t, `'a' 'b'`, word("'a'"), word("'b'"))
	lexes(t, `\''a b'`, word(`\''a b'`))
	lexes(t, `\'a b\'`, word(`\'a`), word(`b\'`))
	for _, s := range []string{"'", "'a", "a'", "a 'b", "'''", "'a''", "'a' 'b", `'a\''`, "';", "'\n", `'"`, `'a"b"`, `\''`} {
		refuses(t, api.ErrQuote, s)
	}
}

func TestP801DoubleQuotes(t *testing.T) {
	for _, s := range []string{`""`, `"a"`, `"a b"`, "\"\n\"", "\"\t;&|()<>#\"", `"'"`, `"it's"`, `"\""`, `"a\"b"`, `"\\"`, `"\a"`, `"\ "`, `"\$(a"`, "\"\\`a\"", `"$"`, `"$a"`, `"$$"`, `"$)"`, `"$}"`, `"("`, `")"`, `"(()"`, `"{"`, `"}"`, `"a""b"`, `""""`, `"a"'b'"c"`, `"$'a"`, "\"`a`\"", "\"`a\"b`\"", "\"`\"`\"", `"$(a)"`, `"$(a "b c")"`, `"$(")")"`, `"${a}"`, `"${a:-"b c"}"`, `"${a'}'}"`, `"$(a 'b"' c)"`, `"a$(b)c${d}e"`} {
		oneWord(t, s)
	}
	lexes(t, `"a" "b"`, word(`"a"`), word(`"b"`))
	lexes(t, `\""a b"`, word(`\""a b"`))
	lexes(t, `"a'b" 'c"d'`, word(`"a'b"`), word(`'c"d'`))
	for _, s := range []string{`"`, `"a`, `a"`, `"a\"`, `"\`, `"\\\"`, `"""`, `"a" "b`, `"'`, `"'"'`, `"$(a"`, `"$(a)`, `"${a"`, `"${a}`, "\"`a\"", "\"`a`", `"$("`, `"$(")"`, `"${a'}"`, "\"`\"", `"$('"')`} {
		refuses(t, api.ErrQuote, s)
	}
}

func TestP801Backslashes(t *testing.T) {
	for _, s := range []string{`\a`, `\ `, "\\\t", `\;`, `\;\;`, `\&`, `\|`, `\(`, `\)`, `\<`, `\>`, `\#`, `\'`, `\"`, "\\`", `\$`, `\\`, `\\\\`, `a\ b\ c`, `\$\(`, `\{\}`, "\\é"} {
		oneWord(t, s)
	}
	lexes(t, `\`, word(`\`))
	lexes(t, `a\`, word(`a\`))
	lexes(t, `a \`, word("a"), word(`\`))
	lexes(t, `;\`, op(";"), word(`\`))
	lexes(t, `a\\\`, word(`a\\\`))
	lexes(t, `'a'\`, word(`'a'\`))
	lexes(t, `a\\ b`, word(`a\\`), word("b"))
	lexes(t, `a\\\ b`, word(`a\\\ b`))
	lexes(t, `\;;;`, word(`\;`), op(";;"))
	lexes(t, `;\;;`, op(";"), word(`\;`), op(";"))
	lexes(t, `\$(a)`, word(`\$`), op("("), word("a"), op(")"))
	lexes(t, `\${a b}`, word(`\${a`), word("b}"))
	lexes(t, `$\(a`, word(`$\(a`))
	for _, s := range []string{`\\'`, `\\"`, "\\\\`", `\\$(`, `\\${`} {
		refuses(t, api.ErrQuote, s)
	}
}

func TestP801Commands(t *testing.T) {
	for _, s := range []string{"$()", "$(a)", "$(a b)", "$( )", "$(\n)", "$(;&|<>#)", "$(a)b", "a$(b)c", "$(a)$(b)", "$(())", "$((a))", "$(a (b))", "$((a) (b))", "$((((a))))", "$(()())", "$(a (b (c) d) e)", "$($(a))", "$($(a) $(b))", "$(a $(b (c)))", "$(a})", "$({)", "$(})", "$({})", "$(${a})", "$(${a)})", "$(')')", "$('(')", `$(")")`, `$("(")`, `$("$(a)")`, "$(`)`)", "$(`(`)", `$(\))`, `$(\()`, `$(\\)`, `$(a \) b)`, `$((\)))`, `$((')'))`, `$((")"))`, "$((`)`))", "$((${)}))", "$(($(a)))", "$($)", "$($a)", "$($$(a))", "$(a $)"} {
		oneWord(t, s)
	}
	lexes(t, "$(a) $(b)", word("$(a)"), word("$(b)"))
	lexes(t, "$(a))", word("$(a)"), op(")"))
	lexes(t, "($(a))", op("("), word("$(a)"), op(")"))
	lexes(t, "$((a)))", word("$((a))"), op(")"))
	lexes(t, "a(b", word("a"), op("("), word("b"))
	lexes(t, "$$(a b)", word("$$(a b)"))
	for _, s := range []string{"$(", "$(a", "a$(", "$(a b;", "$((", "$(()", "$((a)", "$(a (b)", "$($(a)", "$(${a)", "$(${a}", "$(')", `$(")`, "$(`)", `$(\)`, `$(a\)`, `$(\`, "$(a 'b)", "$('a)'", `$((")"`, "$(a}", "$(}"} {
		refuses(t, api.ErrQuote, s)
	}
}

func TestP801Braces(t *testing.T) {
	for _, s := range []string{"${}", "${a}", "${a b}", "${ }", "${\n}", "${;&|<>#}", "${a}b", "a${b}c", "${a}${b}", "${(}", "${)}", "${(()}", "${{}", "${a:-b c}", "${a:-{}", "${${a}}", "${a:-${b:-${c}}}", "${$(a)}", "${$(})}", "${a$(b})}", "${$(()})}", "${'}'}", `${"}"}`, `${"${a}"}`, "${`}`}", `${\}}`, `${\\}`, `${a\}b}`, "${a:-'b' \"c\" `d`}", "${$}", "${$a}", "${$${a}}", "${a)b}"} {
		oneWord(t, s)
	}
	lexes(t, "${a} ${b}", word("${a}"), word("${b}"))
	lexes(t, "${a}}", word("${a}}"))
	lexes(t, "${{}}", word("${{}}"))
	lexes(t, "${{} }", word("${{}"), word("}"))
	lexes(t, "${a}(b)", word("${a}"), op("("), word("b"), op(")"))
	lexes(t, "{a b}", word("{a"), word("b}"))
	lexes(t, "$${a b}", word("$${a b}"))
	for _, s := range []string{"${", "${a", "a${", "${a b", "${${}", "${${a}", "${$(a}", "${$(a)", "${'}", `${"}`, "${`}", `${\}`, `${\`, "${'a}'", "${(", "${)", "${$(}", "${a:-'b}"} {
		refuses(t, api.ErrQuote, s)
	}
}

func TestP801Backquotes(t *testing.T) {
	for _, s := range []string{"``", "`a`", "`a b`", "` `", "`\n`", "`;&|()<>#`", "`a`b", "a`b`c", "`a``b`", "````", "`'`", "`\"`", "`$(`", "`${`", "`(`", "`)`", "`'a`", "`\\``", "`a\\`b`", "`\\\\`", "`\\a`", "`\\ `", "`\\'`", "`\"a`", "`$(a`", "\"`'`\"", "$(`'`)", "${`'`}", "$(`$(`)", "${`${`}", "\"`$(`\""} {
		oneWord(t, s)
	}
	lexes(t, "`a` `b`", word("`a`"), word("`b`"))
	lexes(t, "\\``a b`", word("\\``a b`"))
	lexes(t, "`'` b '`'", word("`'`"), word("b"), word("'`'"))
	for _, s := range []string{"`", "`a", "a`", "`a\\`", "`\\", "`a\\", "`\\\\\\`", "```", "`a` `b", "`'`'", "`\"`\"", "`$(`)`", "`;", "`\n"} {
		refuses(t, api.ErrQuote, s)
	}
}

func TestP801OtherDollars(t *testing.T) {
	for _, s := range []string{"$", "$$", "$a", "a$", "a$b", "$1", "$?", "$#", "$*", "$@", "$-", "$!", "$_a", "$}", "$[", "$[a]", "$'a b'", `$"a b"`, "$`a b`", `$\ `, "$=", "a$b{}", "$a{", "$a}", "$$$a", "$$$(a b)"} {
		oneWord(t, s)
	}
	for _, o := range []string{";", ";;", "&", "&&", "|", "||", ")", "<", ">", ">>"} {
		lexes(t, "$"+o+"a", word("$"), op(o), word("a"))
	}
	lexes(t, "$ (a)", word("$"), op("("), word("a"), op(")"))
	lexes(t, "$\n", word("$"), newline)
	lexes(t, "$a(b)", word("$a"), op("("), word("b"), op(")"))
	lexes(t, "$'(' a", word("$'('"), word("a"))
	lexes(t, "$#a b", word("$#a"), word("b"))
}

func TestP801JoinedLines(t *testing.T) {
	lexes(t, "a\\\nb", word("ab"))
	lexes(t, "\\\na", word("a"))
	lexes(t, "a\\\n", word("a"))
	lexes(t, "a \\\n b", word("a"), word("b"))
	lexes(t, "a\\\n b", word("a"), word("b"))
	lexes(t, "a;\\\nb", word("a"), op(";"), word("b"))
	lexes(t, "a\n\\\nb", word("a"), newline, word("b"))
	// Within each kind of quote.
	lexes(t, "'a\\\nb'", word("'ab'"))
	lexes(t, "\"a\\\nb\"", word(`"ab"`))
	lexes(t, "$(a\\\nb)", word("$(ab)"))
	lexes(t, "$((a\\\nb))", word("$((ab))"))
	lexes(t, "${a\\\nb}", word("${ab}"))
	lexes(t, "`a\\\nb`", word("`ab`"))
	lexes(t, "'\\\n'", word("''"))
	lexes(t, "\"`'\\\n'`\"", word("\"`''`\""))
	// Within an operator, or a mark of two bytes.
	for _, o := range []string{";;", "&&", "||", ">>", "$("} {
		joined := o[:1] + "\\\n" + o[1:]
		if o == "$(" {
			lexes(t, joined+"a b)", word("$(a b)"))
			continue
		}
		lexes(t, joined, op(o))
		lexes(t, "a"+joined+"\\\n"+o[:1]+"b", word("a"), op(o), op(o[:1]), word("b"))
	}
	lexes(t, "$\\\n{a b\\\n}", word("${a b}"))
	lexes(t, "a\\\n\\\n\\\n#b", word("a#b"))
	// Behind another \, which stays and quotes what comes then.
	lexes(t, "a\\\\\nb", word("a\\b"))
	lexes(t, "a\\\\\n b", word("a\\ b"))
	lexes(t, "a\\\\\n;b", word("a\\;b"))
	lexes(t, "a\\\\\n'b c", word("a\\'b"), word("c"))
	lexes(t, "a\\\\\n", word("a\\"))
	lexes(t, "a\\\\\\\n b", word("a\\\\"), word("b"))
	lexes(t, "\\\\\n\\\\\n;", word("\\\\"), op(";"))
	lexes(t, "\"\\\\\n\"\"", word(`"\""`))
	refuses(t, api.ErrQuote, "\"\\\\\n\"")
	lexes(t, "'\\\\\n'", word(`'\'`))
	// Two of them, one behind the other.
	lexes(t, "a\\\n\\\nb", word("ab"))
	lexes(t, "a\\\n\\\n\nb", word("a"), newline, word("b"))
	lexes(t, ";\\\n\\\n;", op(";;"))
	// What comes together only then does not go.
	lexes(t, "a\\\\\n\nb", word("a\\\nb"))
	lexes(t, "'\\\\\n\n'", word("'\\\n'"))
	lexes(t, "a\\\\\\\n\n\nb", word("a\\\\"), newline, newline, word("b"))
	// A byte 10 that has no \ ahead stays.
	lexes(t, "a\\ \nb", word("a\\ "), newline, word("b"))
	lexes(t, "a\\\r\nb", word("a\\\r"), newline, word("b"))
	lexes(t, "'a\nb'", word("'a\nb'"))
	refuses(t, api.ErrQuote, "'a\\\n")
	refuses(t, api.ErrQuote, "a\\\n'")
}

func TestP801Mixed(t *testing.T) {
	lexes(t, "if a=1 b; then\n\tc >d <e || f # g\nfi",
		word("if"), word("a=1"), word("b"), op(";"), word("then"), newline,
		word("c"), op(">"), word("d"), op("<"), word("e"), op("||"), word("f"), newline, word("fi"))
	lexes(t, "case $x in *.c|'a b') echo \"$(y)\";; esac",
		word("case"), word("$x"), word("in"), word("*.c"), op("|"), word("'a b'"), op(")"), word("echo"), word(`"$(y)"`), op(";;"), word("esac"))
	oneWord(t, "\"$(a \"${b:-`c \\`d\\``}\" (e 'f)') \\) )\"${g:-\"h}\"}'i'\\ j")
}

func TestP801MaxText(t *testing.T) {
	full := strings.Repeat("a", api.MaxText)
	lexes(t, full, word(full))
	lexes(t, full[1:]+" ", word(full[1:]))
	oneLong := "'" + strings.Repeat(" ", api.MaxText-2) + "'"
	lexes(t, oneLong, word(oneLong))
	lexes(t, "#"+full[1:])
	lexes(t, strings.Repeat("\\\n", api.MaxText/2))
	refuses(t, api.ErrLong, full+"a")
	refuses(t, api.ErrLong, full+full)
	// Bytes that go count, too.
	refuses(t, api.ErrLong, strings.Repeat("\\\n", api.MaxText/2)+"a")
	refuses(t, api.ErrLong, strings.Repeat(" ", api.MaxText+1))
	refuses(t, api.ErrLong, "#"+full)
	refuses(t, api.ErrLong, strings.Repeat("\x00", 1<<22))
}

func TestP801MaxWords(t *testing.T) {
	for _, piece := range []string{"a ", "\n", "; ", ";;", "&&", "(", ")", "<", ">>", "a\t", "'' ", "\\\n(", "$(a b) "} {
		counts(t, strings.Repeat(piece, api.MaxWords-2), api.MaxWords-1)
		counts(t, strings.Repeat(piece, api.MaxWords-1), api.MaxWords)
		counts(t, strings.Repeat(piece, api.MaxWords-1)+"\t # b ; c", api.MaxWords)
		counts(t, strings.Repeat(piece, api.MaxWords-1)+"\\\n ", api.MaxWords)
		refuses(t, api.ErrLong, strings.Repeat(piece, api.MaxWords))
		refuses(t, api.ErrLong, strings.Repeat(piece, api.MaxWords+1))
		refuses(t, api.ErrLong, strings.Repeat(piece, api.MaxWords-1)+"b")
	}
	for _, piece := range []string{"a;", "a\n", "#a\n;", "a("} {
		counts(t, strings.Repeat(piece, api.MaxWords/2-1)+"b", api.MaxWords)
		refuses(t, api.ErrLong, strings.Repeat(piece, api.MaxWords/2))
	}
	refuses(t, api.ErrLong, strings.Repeat("a ", api.MaxText/2))
	refuses(t, api.ErrLong, strings.Repeat("\n", api.MaxText))
}

// nest is a way to open things within one another, so many of them, and how they end.
type nest struct {
	open, shut string
	things     int
}

func nests() []nest {
	return []nest{{"$(", ")", 1}, {"${", "}", 1}, {"$(\"", "\")", 2}, {"\"$(", ")\"", 2}, {"$((", "))", 2}, {"${\"", "\"}", 2}, {"\"${", "}\"", 2}, {"$(a ${b ", " c} d)", 2}, {"$(( \"", "\"))", 3}}
}

// deep is a word with n things open within one another.
func (x nest) deep(n int) string {
	s := strings.Repeat(x.open, n/x.things) + "x" + strings.Repeat(x.shut, n/x.things)
	left := n % x.things
	return strings.Repeat("$(", left) + s + strings.Repeat(")", left)
}

func TestP801MaxDeep(t *testing.T) {
	for _, x := range nests() {
		for n := 1; n <= api.MaxDeep; n++ {
			s := x.deep(n)
			lexes(t, s, word(s))
		}
		for n := api.MaxDeep + 1; n < api.MaxDeep+20; n++ {
			refuses(t, api.ErrDeep, x.deep(n))
		}
		// What is one behind the other is not within one another.
		s := strings.Repeat(x.deep(api.MaxDeep), 2)
		lexes(t, s+" "+s, word(s), word(s))
	}
	// Of each kind as the last one that is open.
	under, shut := strings.Repeat("$(", api.MaxDeep-1), strings.Repeat(")", api.MaxDeep-1)
	for _, x := range []nest{{"$(", ")", 1}, {"${", "}", 1}, {`"`, `"`, 1}, {"`", "`", 1}, {"(", ")", 1}} {
		for _, inner := range []string{"", "a", " a b ", "'a'", "''", `\a`, `\\`, "$", "$a"} {
			s := under + x.open + inner + x.shut + shut
			lexes(t, s, word(s))
			refuses(t, api.ErrDeep, "$("+s+")")
			refuses(t, api.ErrDeep, "${"+s+"}")
			refuses(t, api.ErrDeep, `"`+s+`"`)
			refuses(t, api.ErrDeep, "$(("+s+"))")
		}
		twice := under + strings.Repeat(x.open+x.shut, 3) + shut
		lexes(t, twice, word(twice))
		refuses(t, api.ErrDeep, "$("+twice+")")
	}
	mostParens := "$(" + strings.Repeat("(", api.MaxDeep-1) + strings.Repeat(")", api.MaxDeep)
	lexes(t, mostParens, word(mostParens))
	refuses(t, api.ErrDeep, "$("+strings.Repeat("(", api.MaxDeep)+strings.Repeat(")", api.MaxDeep+1))
}

// Neither single quotes nor a \ nor what opens nothing counts.
func TestP801WhatIsNotDeep(t *testing.T) {
	under, shut := strings.Repeat("$(", api.MaxDeep), strings.Repeat(")", api.MaxDeep)
	for _, inner := range []string{"", "''", "'a'", "'$(a)'", "'('", `'"'`, `\(`, `\)`, `\"`, "\\`", `\$\(`, "$a", "$", "{", "}", "{}", "$\\(", "'`'", strings.Repeat("''", 100)} {
		s := under + inner + shut
		lexes(t, s, word(s))
	}
	for _, inner := range []string{`""`, "``", "$()", "${}", "()"} {
		refuses(t, api.ErrDeep, under+inner+shut)
	}
	// An operator ( opens nothing.
	many := strings.Repeat("(", 200)
	counts(t, many, 201)
	counts(t, many+strings.Repeat("$(", 60)+shut, 202)
	// Within backquotes, single quotes and comments nothing is opened.
	for _, s := range []string{"`" + strings.Repeat("$(", 100) + "`", "'" + strings.Repeat("${", 100) + "'", "`" + strings.Repeat(`"`, 101) + "`", "${" + strings.Repeat("(", 100) + "}", `"` + strings.Repeat("(", 100) + `"`} {
		lexes(t, s, word(s))
	}
}

func TestP801WhichErrorComesFirst(t *testing.T) {
	tooDeep := strings.Repeat("$(", api.MaxDeep+1)
	tooDeepAndShut := tooDeep + strings.Repeat(")", api.MaxDeep+1)
	tooMany := strings.Repeat("a ", api.MaxWords+1)
	tooLong := strings.Repeat("a", api.MaxText+1)

	// Too many bytes, wherever and whatever else is wrong.
	for _, s := range []string{"'", `"`, "$(", "`", tooDeep, tooDeepAndShut, tooMany} {
		refuses(t, api.ErrLong, s+tooLong)
		refuses(t, api.ErrLong, tooLong+s)
		refuses(t, api.ErrLong, s+tooLong[len(s)-1:])
	}
	refuses(t, api.ErrQuote, "'"+tooLong[2:])
	refuses(t, api.ErrDeep, tooDeep+tooLong[len(tooDeep)+1:])

	// An end that is missing is missed at the end of s alone.
	refuses(t, api.ErrDeep, tooDeep)
	refuses(t, api.ErrDeep, `"`+tooDeepAndShut)
	refuses(t, api.ErrDeep, strings.Repeat("$(", api.MaxDeep)+"`")
	refuses(t, api.ErrDeep, strings.Repeat("$(", api.MaxDeep)+`"`)
	refuses(t, api.ErrDeep, strings.Repeat("$(", api.MaxDeep)+"(")
	refuses(t, api.ErrDeep, strings.Repeat("$(", api.MaxDeep)+"${")
	refuses(t, api.ErrQuote, strings.Repeat("$(", api.MaxDeep))
	refuses(t, api.ErrQuote, strings.Repeat("$(", api.MaxDeep)+"'")
	refuses(t, api.ErrQuote, strings.Repeat("$(", api.MaxDeep)+"$")
	refuses(t, api.ErrDeep, tooDeepAndShut+" '")
	refuses(t, api.ErrDeep, tooDeep+"'")
	refuses(t, api.ErrQuote, "'"+tooDeep)
	refuses(t, api.ErrQuote, "`"+tooDeep)
	refuses(t, api.ErrQuote, "a '"+tooDeepAndShut)

	// Tokens that are too many come where they stand.
	refuses(t, api.ErrLong, tooMany+"'")
	refuses(t, api.ErrLong, tooMany+tooDeep)
	refuses(t, api.ErrLong, tooMany+tooDeepAndShut)
	refuses(t, api.ErrDeep, tooDeepAndShut+" "+tooMany)
	refuses(t, api.ErrDeep, tooDeep+tooMany)
	refuses(t, api.ErrQuote, "'"+tooMany)
	refuses(t, api.ErrQuote, `"`+tooMany)
	refuses(t, api.ErrQuote, "$("+tooMany)
	refuses(t, api.ErrQuote, "a `"+tooMany)

	// A word is a token where it ends, a TokEnd at the end of s.
	most := strings.Repeat("a ", api.MaxWords)
	for _, s := range []string{most, most[2:], most[4:]} {
		refuses(t, api.ErrQuote, s+"'")
		refuses(t, api.ErrQuote, s+"\"b")
		refuses(t, api.ErrQuote, s+"$(")
		refuses(t, api.ErrDeep, s+tooDeep)
		refuses(t, api.ErrDeep, s+tooDeepAndShut)
	}
	for _, more := range []string{"b '", ";'", "\n'", "b;" + tooDeep, "b " + tooDeepAndShut} {
		refuses(t, api.ErrLong, most+more)
	}
	refuses(t, api.ErrQuote, most[2:]+"b '")
	refuses(t, api.ErrDeep, most[2:]+"b "+tooDeep)
}

// shortTexts tells all texts of at most most bytes out of letters.
func shortTexts(letters string, most int) []string {
	l := []string{""}
	for at := 0; at < len(l); at++ {
		if s := l[at]; len(s) < most {
			for i := range len(letters) {
				l = append(l, s+letters[i:i+1])
			}
		}
	}
	return l
}

func TestP801AllShortTexts(t *testing.T) {
	for _, x := range []struct {
		letters string
		most    int
	}{
		{"a \t\n#;&|()<>'\"\\$`{}", 4},
		{"a ()$\"'\\`{}", 5},
		{"()$\"'`{}", 6},
		{"\\\n a'", 7},
		{"$()\"", 8},
		{"$`\\\"a", 7},
	} {
		errors := map[api.Errno]int{}
		for _, s := range shortTexts(x.letters, x.most) {
			errors[asThePlain(t, s)]++
		}
		if errors[api.OK] == 0 || errors[api.ErrQuote] == 0 {
			t.Errorf("of the texts out of %q: %v", x.letters, errors)
		}
	}
}

// Longer texts, put together of things that end and of single bytes.
func TestP801LongerTexts(t *testing.T) {
	pieces := []string{"a", "b", " ", "\t", "\n", "\\\n", "#", ";", ";;", "&&", "|", "(", ")", "<", ">>", "'", "\"", "\\", "$", "`", "$(", "${", "{", "}", "'a b'", "\"a b\"", "$(a b)", "${a b}", "`a b`", "é", "\x00"}
	r := rand.New(rand.NewSource(8))
	errors := map[api.Errno]int{}
	for range 60000 {
		var b strings.Builder
		for range r.Intn(40) {
			b.WriteString(pieces[r.Intn(len(pieces))])
		}
		errors[asThePlain(t, b.String())]++
	}
	// Mostly openings, so that some are too deep.
	opens := []string{"$(", "${", "\"", "(", "a ", ")", "}", "'a'", "\\`", "`a`"}
	for range 20000 {
		var b strings.Builder
		for range r.Intn(300) {
			b.WriteString(opens[min(r.Intn(len(opens)), r.Intn(len(opens)))])
		}
		errors[asThePlain(t, b.String())]++
	}
	for _, e := range []api.Errno{api.OK, api.ErrQuote, api.ErrDeep} {
		if errors[e] < 1000 {
			t.Errorf("only %d of the texts have the error %d", errors[e], e)
		}
	}
}

// A well-formed word stands whole, whatever it is made of.
func TestP801WholeWords(t *testing.T) {
	r := rand.New(rand.NewSource(801))
	for range 20000 {
		s := grown(r, 5, "")
		if s == "" || strings.Contains(s, "\\\n") {
			continue
		}
		lexes(t, s, word(s))
		lexes(t, "a "+s+";"+s+"\t\n", word("a"), word(s), op(";"), word(s), newline)
		lexes(t, strings.ReplaceAll(s, "a", "\\\na"), word(s))
		if t.Failed() {
			return
		}
	}
}

// grown makes a word, or what may stand within something: bare are bytes that are themselves there, a ' among them within double quotes.
func grown(r *rand.Rand, deep int, bare string) string {
	var b strings.Builder
	for range r.Intn(4) {
		switch kind := r.Intn(8); {
		case deep == 0 || kind == 0:
			b.WriteString("a")
		case kind == 1 && bare != "":
			i := r.Intn(len(bare))
			b.WriteString(bare[i : i+1])
		case kind == 2:
			b.WriteString("\\" + string("a '\"`$(){};\\"[r.Intn(12)]))
		case kind == 3 && !strings.Contains(bare, "'"):
			b.WriteString("'" + strings.ReplaceAll(grown(r, 2, " \n;\"`$(){}"), "'", "") + "'")
		case kind == 4 && !strings.Contains(bare, "'"):
			b.WriteString(`"` + grown(r, deep-1, " \n\t;&|()<>#{}'") + `"`)
		case kind == 5:
			b.WriteString("$(" + grown(r, deep-1, " \n\t;&|<>#{}") + ")")
		case kind == 6:
			b.WriteString("${" + grown(r, deep-1, " \n\t;&|()<>#{") + "}")
		case kind == 7:
			b.WriteString("`" + strings.Repeat("\\` '\"$(", r.Intn(3)) + "`")
		}
	}
	return b.String()
}

// The tokens put together are the text, without what parts them.
func TestP801NothingIsLost(t *testing.T) {
	r := rand.New(rand.NewSource(810))
	letters := "aab  \n\t;&|()<>'\"\\$`{}"
	for range 60000 {
		b := make([]byte, r.Intn(12))
		for i := range b {
			b[i] = letters[r.Intn(len(letters))]
		}
		s := string(b)
		l, e := Lex(s)
		if e != api.OK {
			continue
		}
		rest := plainJoined(s)
		for _, x := range l {
			rest = strings.TrimLeft(rest, " \t")
			if !strings.HasPrefix(rest, x.Text) {
				t.Fatalf("Lex of %q: %s", s, told(l))
			}
			rest = rest[len(x.Text):]
		}
		if rest != "" || l[len(l)-1] != end {
			t.Fatalf("Lex of %q: %s, and %q is left", s, told(l), rest)
		}
	}
}

func TestP801Pops(t *testing.T) {
	b := bounded[int]{most: 2, fault: api.ErrDeep}
	b.push(1)
	b.push(2)
	func() {
		defer func() {
			if why := recover(); why != api.ErrDeep {
				t.Errorf("one item more than there is room for: %v", why)
			}
		}()
		b.push(3)
	}()
	if x, y := b.pop(), b.pop(); x != 2 || y != 1 || len(b.items) != 0 {
		t.Errorf("popped %d, %d; %v is left", x, y, b.items)
	}
}

// First goes over the same things as a word, without asking how deep they are: chapter 10 leans on it.
func TestP801First(t *testing.T) {
	for s, want := range map[string]int{
		"": 0, "a": 1, "ab": 1, " a": 1, "\\\n": 2, "#a": 1, ";;": 1, "(a)": 1, "'a b'c": 5, `"a b"c`: 5, `"\""c`: 4, `"'"'`: 3, `\`: 1, `\a`: 2, `\'a'`: 2, "$": 1, "$a": 1, "$(a b)c": 6, "$(a (b))c": 8, "${a b}c": 6, "${a:-'}'}c": 9, "`a b`c": 5, "`\\``c": 4, "''a": 2,
	} {
		if n, e := First(s); n != want || e != api.OK {
			t.Errorf("First of %q: %d, %d, not %d", s, n, e, want)
		}
	}
	for _, s := range []string{"'", `"`, `"\"`, "`", "`\\`", "$(", "$(a (b)", "${", "${a:-'}", strings.Repeat("$(", 1000), strings.Repeat("${a:-\"", 30000)} {
		if n, e := First(s); n != 0 || e != api.ErrQuote {
			t.Errorf("First of %.60q: %d, %d", s, n, e)
		}
	}
	for _, n := range []int{api.MaxDeep, api.MaxDeep + 1, 60000} {
		s := strings.Repeat("$(", n) + strings.Repeat(")", n)
		if got, e := First(s + s); got != len(s) || e != api.OK {
			t.Errorf("First of %d within one another: %d, %d", n, got, e)
		}
	}
	for _, s := range shortTexts("a $(){}'\"\\`", 5)[1:] {
		got, e := First(s)
		if want, f := plainThing(s, 0); got != want || e != f {
			t.Fatalf("First of %q: %d, %d, not %d, %d", s, got, e, want, f)
		}
	}
}

// within tells whether two texts share memory.
func within(a, b string) bool {
	if a == "" || b == "" {
		return false
	}
	p, q := uintptr(unsafe.Pointer(unsafe.StringData(a))), uintptr(unsafe.Pointer(unsafe.StringData(b)))
	return p < q+uintptr(len(b)) && q < p+uintptr(len(a))
}

func TestP802NewMemory(t *testing.T) {
	for _, s := range []string{"whole", "some words; and && operators\n'and more' # x\n", "joined\\\nlines and;\\\n;more", strings.Repeat("word ", 100)} {
		s = strings.Clone(s)
		one, _ := Lex(s)
		two, _ := Lex(s)
		before := told(two)
		for i, x := range one {
			for _, y := range slices.Concat(one[i+1:], two, []api.Token{word(s)}) {
				if within(x.Text, y.Text) {
					t.Errorf("the token %q of %q shares its memory with %.20q", x.Text, s, y.Text)
				}
			}
		}
		clear(one[:cap(one)])
		one = append(one[:0], word("x"), word("y"))
		if told(two) != before {
			t.Errorf("two answers share their memory: %s, not %s", told(two), before)
		}
		if three, e := Lex(s); e != api.OK || told(three) != before {
			t.Errorf("Lex of %q once more: %s, %d, not %s", s, told(three), e, before)
		}
	}
}

// What was asked before, an error among it, is not to be seen in an answer.
func TestP802HangsOnTheTextAlone(t *testing.T) {
	texts := []string{"", "a b", "'a", "$(a", strings.Repeat("$(", 61), strings.Repeat("a ", 5000), strings.Repeat("a", api.MaxText+1), "\"$(a `b", "a;b # c\n", "((", "$((a))", "`a`"}
	var want []string
	for _, s := range texts {
		l, e := plainLex(s)
		want = append(want, fmt.Sprint(told(l), e == api.OK, int(e)))
	}
	for range 3 {
		for i := range texts {
			for j := range texts {
				_, _ = Lex(texts[i])
				l, e := Lex(texts[j])
				if got := fmt.Sprint(told(l), e == api.OK, int(e)); got != want[j] {
					t.Fatalf("Lex of %.40q behind %.40q: %.100s, not %.100s", texts[j], texts[i], got, want[j])
				}
			}
		}
	}
	var all sync.WaitGroup
	got := make([]string, len(texts))
	for i, s := range texts {
		all.Go(func() {
			for range 20 {
				l, e := Lex(s)
				got[i] = fmt.Sprint(told(l), e == api.OK, int(e))
			}
		})
	}
	all.Wait()
	if !slices.Equal(got, want) {
		t.Errorf("at the same time: %.300q, not %.300q", got, want)
	}
}

func FuzzLex(f *testing.F) {
	f.Add("a 'b c'\"d\";e&&f>g # h")
	f.Add("$(a (b))c${d}`e`\\\n")
	f.Fuzz(func(t *testing.T, s string) { asThePlain(t, s) })
}
