package field

import (
	"bytes"
	"errors"
	"fmt"
	"math"
	"math/rand"
	"regexp"
	"slices"
	"strconv"
	"strings"
	"sync"
	"testing"
	"unsafe"

	"anvil/api"
	"anvil/glob"
	"anvil/vfs"
	"anvil/wild"
)

// pairs makes variables of texts NAME=VALUE.
func pairs(texts ...string) []api.Pair {
	var l []api.Pair
	for _, s := range texts {
		name, value, _ := strings.Cut(s, "=")
		l = append(l, api.Pair{Name: name, Value: value})
	}
	return l
}

// sample has the variables of the chapter's examples, and some more.
func sample() []api.Pair {
	return pairs("a=x y", "b=", "s= ", "t=\t\n ", "w=*.c", "q='\"\\$a`", "a=second", "_=under", "a1=digit", "A=great")
}

// files makes a file system with these files, each with its name as its bytes; those that end in / are directories.
func files(t testing.TB, names ...string) *vfs.FS {
	t.Helper()
	f, e := vfs.New(api.Tree{Room: api.MaxRoom})
	for _, name := range names {
		if e == api.OK && strings.HasSuffix(name, "/") {
			e = f.Mkdir(name)
		} else if e == api.OK {
			e = f.Write(name, []byte(name), false)
		}
	}
	if e != api.OK {
		t.Fatal(names, e)
	}
	return f
}

func brief(l any) string { return fmt.Sprintf("%.300s", fmt.Sprintf("%q", l)) }

// reads asks for that text of a word over the sample, and for the sample as it was.
func reads(t *testing.T, word, want string) {
	t.Helper()
	sets(t, sample(), word, want, sample()...)
}

// sets asks for that text of a word, and for these variables behind it; Expand must set the same.
func sets(t *testing.T, vars []api.Pair, word, want string, after ...api.Pair) {
	t.Helper()
	got, l, e := Text(vars, 3, word)
	if got != want || e != api.OK || !slices.Equal(l, after) {
		t.Errorf("Text of %.200q: %.200q, %s, %d, not %.200q, %s", word, got, brief(l), e, want, brief(after))
	}
	if _, l, e := Expand(vars, 3, nil, []string{word}); e != api.OK || !slices.Equal(l, after) {
		t.Errorf("Expand of %.200q: %s, %d, not %s", word, brief(l), e, brief(after))
	}
}

// cuts asks for these fields of a word over the sample, without a file system.
func cuts(t *testing.T, word string, want ...string) {
	t.Helper()
	finds(t, nil, word, want...)
}

// finds asks for these fields of a word over the sample.
func finds(t *testing.T, f *vfs.FS, word string, want ...string) {
	t.Helper()
	got, l, e := Expand(sample(), 3, f, []string{word})
	if e != api.OK || !slices.Equal(got, want) {
		t.Errorf("Expand of %.200q: %s, %d, not %s", word, brief(got), e, brief(want))
	}
	if s, m, e := Text(sample(), 3, word); e != api.OK || !slices.Equal(l, m) {
		t.Errorf("Text of %.200q: %.200q, %d, variables %s, not %s", word, s, e, brief(m), brief(l))
	}
}

// refuses asks for that error of a word over the sample, and nothing beside it, of both calls.
func refuses(t *testing.T, want api.Errno, word string) {
	t.Helper()
	refusesOver(t, sample(), want, word)
}

func refusesOver(t *testing.T, vars []api.Pair, want api.Errno, word string) {
	t.Helper()
	if s, l, e := Text(vars, 3, word); s != "" || len(l) != 0 || e != want {
		t.Errorf("Text of %d bytes %.100q: %.100q, %s, %d, not %d", len(word), word, s, brief(l), e, want)
	}
	for _, f := range []*vfs.FS{nil, files(t, "a")} {
		if s, l, e := Expand(vars, 3, f, []string{word}); len(s) != 0 || len(l) != 0 || e != want {
			t.Errorf("Expand of %d bytes %.100q: %s, %s, %d, not %d", len(word), word, brief(s), brief(l), e, want)
		}
	}
}

// plainEnd tells the place behind what begins at a place of s, -1 if it has no end. It goes into what is within by itself.
func plainEnd(s string, at int) int {
	switch rest := s[at:]; {
	case rest[0] == '\'':
		return plainClose(s, at+1, '\'', "\\\"`$(")
	case rest[0] == '\\':
		return min(at+2, len(s))
	case rest[0] == '"':
		return plainClose(s, at+1, '"', "'(")
	case rest[0] == '`':
		return plainClose(s, at+1, '`', "'\"$(")
	case strings.HasPrefix(rest, "$("):
		return plainClose(s, at+2, ')', "")
	case strings.HasPrefix(rest, "${"):
		return plainClose(s, at+2, '}', "(")
	}
	return at + 1
}

// plainClose goes from at on up to the byte stop; the bytes of bare begin nothing there.
func plainClose(s string, at int, stop byte, bare string) int {
	for at >= 0 && at < len(s) && s[at] != stop {
		switch {
		case strings.IndexByte(bare, s[at]) >= 0:
			at++
		case s[at] == '(':
			at = plainClose(s, at+1, ')', "")
		default:
			at = plainEnd(s, at)
		}
	}
	if at < 0 || at >= len(s) {
		return -1
	}
	return at + 1
}

// Marks of a second telling: a byte of a word is a rune, 0x100 more if it is open, 0x200 more if it is quoted.
const (
	markOpen   = 0x100
	markQuoted = 0x200
)

// teller is a second telling of the chapter's words. What can't go on panics with its number.
type teller struct {
	vars   []api.Pair
	status int
	deep   int
	quotes bool
	marks  []rune
}

func (p *teller) put(s string, mark rune) {
	for i := range len(s) {
		p.marks = append(p.marks, rune(s[i])+mark)
		if len(p.marks) > api.MaxText {
			panic(api.ErrLong)
		}
	}
}

func (p *teller) bytes() string {
	var b []byte
	for _, r := range p.marks {
		b = append(b, byte(r))
	}
	return string(b)
}

// inner tells the text of a W.
func (p *teller) inner(s string) string {
	q := &teller{vars: p.vars, status: p.status, deep: p.deep}
	q.word(s)
	p.vars = q.vars
	return q.bytes()
}

func (p *teller) word(s string) {
	for s != "" {
		n := plainEnd(s, 0)
		switch s[0] {
		case '\'':
			p.quotes = true
			p.put(s[1:n-1], markQuoted)
		case '"':
			p.quotes = true
			p.double(s[1 : n-1])
		case '\\':
			p.put(s[n-1:n], markQuoted)
		default:
			n = p.bare(s, 0, markOpen)
		}
		s = s[n:]
	}
}

func (p *teller) double(s string) {
	for s != "" {
		if regexp.MustCompile("^\\\\[$\"\\\\`]").MatchString(s) {
			p.put(s[1:2], markQuoted)
			s = s[2:]
			continue
		}
		s = s[p.bare(s, markQuoted, markQuoted):]
	}
}

var (
	dollarName = regexp.MustCompile(`^\$[A-Za-z_][A-Za-z_0-9]*`)
	braceForm  = regexp.MustCompile(`(?s)^([A-Za-z_][A-Za-z_0-9]*)((:?)([-=+])(.*))?$`)
)

// bare goes over what is the same outside double quotes and within.
func (p *teller) bare(s string, own, given rune) int {
	n := plainEnd(s, 0)
	if name := dollarName.FindString(s); name != "" {
		p.put(p.value(name[1:]), given)
		return len(name)
	}
	switch {
	case s[0] == '`', strings.HasPrefix(s, "$("):
		panic(api.ErrHost)
	case strings.HasPrefix(s, "$?"):
		p.put(fmt.Sprint(p.status), given)
		return 2
	case strings.HasPrefix(s, "${"):
		if p.deep++; p.deep > api.MaxDeep {
			panic(api.ErrDeep)
		}
		p.put(p.brace(s[2:n-1]), given)
		p.deep--
		return n
	}
	p.put(s[:1], own)
	return 1
}

func (p *teller) place(name string) int {
	for i, v := range p.vars {
		if v.Name == name {
			return i
		}
	}
	return -1
}

func (p *teller) value(name string) string {
	if i := p.place(name); i >= 0 {
		return p.vars[i].Value
	}
	return ""
}

func (p *teller) brace(s string) string {
	if s == "?" {
		return strconv.Itoa(p.status)
	}
	m := braceForm.FindStringSubmatch(s)
	if m == nil {
		panic(api.ErrSyntax)
	}
	name, colon, op, w := m[1], m[3], m[4], m[5]
	there := p.place(name) >= 0 && (colon == "" || p.value(name) != "")
	switch {
	case op == "":
		return p.value(name)
	case op == "+" && there:
		return p.inner(w)
	case op == "+":
		return ""
	case there:
		return p.value(name)
	}
	text := p.inner(w)
	if op == "=" {
		if i := p.place(name); i >= 0 {
			p.vars[i].Value = text
		} else {
			p.vars = append(p.vars, api.Pair{Name: name, Value: text})
		}
	}
	return text
}

func (p *teller) whole(s string) {
	for at := 0; at < len(s); {
		if at = plainEnd(s, at); at < 0 {
			panic(api.ErrQuote)
		}
	}
	p.quotes, p.marks = false, nil
	p.word(s)
}

// fields cuts what whole has told.
func (p *teller) fields(f *vfs.FS) []string {
	if len(p.marks) == 0 && p.quotes {
		return []string{""}
	}
	var l []string
	for _, field := range strings.FieldsFunc(string(p.marks), func(r rune) bool {
		return r == markOpen+' ' || r == markOpen+'\t' || r == markOpen+'\n'
	}) {
		var text, pattern []byte
		for _, r := range field {
			if text = append(text, byte(r)); r >= markQuoted && byte(r) != '/' {
				pattern = append(pattern, '\\')
			}
			pattern = append(pattern, byte(r))
		}
		found := []string{string(text)}
		if f != nil && glob.Has(string(pattern)) {
			if m := wild.Expand(f, string(pattern)); len(m) > 0 {
				found = m
			}
		}
		if l = append(l, found...); len(l) > api.MaxWords {
			panic(api.ErrLong)
		}
	}
	return l
}

// caught tells the number of what do panics with, OK if it does not.
func caught(do func()) (e api.Errno) {
	defer func() {
		if why := recover(); why != nil {
			e = why.(api.Errno)
		}
	}()
	do()
	return api.OK
}

func plainText(vars []api.Pair, status int, word string) (string, []api.Pair, api.Errno) {
	p := &teller{vars: slices.Clone(vars), status: status}
	if e := caught(func() { p.whole(word) }); e != api.OK {
		return "", nil, e
	}
	return p.bytes(), p.vars, api.OK
}

func plainExpand(vars []api.Pair, status int, f *vfs.FS, words []string) ([]string, []api.Pair, api.Errno) {
	p := &teller{vars: slices.Clone(vars), status: status}
	var l []string
	e := caught(func() {
		for _, s := range words {
			p.whole(s)
			if l = append(l, p.fields(f)...); len(l) > api.MaxWords {
				panic(api.ErrLong)
			}
		}
	})
	if e != api.OK {
		return nil, nil, e
	}
	return l, p.vars, api.OK
}

// asThePlain asks that both calls tell what the second telling does.
func asThePlain(t *testing.T, vars []api.Pair, status int, f *vfs.FS, words ...string) api.Errno {
	t.Helper()
	got, l, e := Expand(vars, status, f, words)
	want, m, g := plainExpand(vars, status, f, words)
	if e != g || !slices.Equal(got, want) || !slices.Equal(l, m) {
		t.Fatalf("Expand of %s: %s, %s, %d, not %s, %s, %d", brief(words), brief(got), brief(l), e, brief(want), brief(m), g)
	}
	for _, s := range words {
		got, l, e := Text(vars, status, s)
		want, m, g := plainText(vars, status, s)
		if e != g || got != want || !slices.Equal(l, m) {
			t.Fatalf("Text of %.300q: %.300q, %s, %d, not %.300q, %s, %d", s, got, brief(l), e, want, brief(m), g)
		}
	}
	return e
}

func TestP1001EmptyWord(t *testing.T) {
	reads(t, "", "")
	sets(t, nil, "", "")
	for _, s := range []string{"''", `""`, "''\"\"''", "$b", "${b}", `"$b"`, "$none", "${none}", "${none:-}", "${a:+}", "${b:+x}", "${none+x}"} {
		reads(t, s, "")
	}
}

// All bytes but those that the chapter names stand for themselves.
func TestP1001PlainBytes(t *testing.T) {
	for c := range 256 {
		one := string([]byte{byte(c)})
		asThePlain(t, sample(), 3, nil, one)
		asThePlain(t, sample(), 3, nil, "a"+one+"b")
		if !strings.Contains("'\"`\\", one) {
			reads(t, one, one)
			reads(t, "a"+one, "a"+one)
			reads(t, one+one+"-", one+one+"-")
			reads(t, `"`+one+`"`, one)
		}
		if one != "'" {
			reads(t, "'"+one+"'", one)
		}
	}
	for _, s := range []string{"a b", " a", "a ", "a\nb", "a;b&&c|d>e<f(g)", "#a", "a #b", "~", "a=b", "{}", "}", "!", "é", "\xff\xfe\x00", "*?[x]", "%", "a:-b", "a}b"} {
		reads(t, s, s)
		cuts(t, s, s)
	}
}

func TestP1001SingleQuotes(t *testing.T) {
	reads(t, "'x y'", "x y")
	reads(t, "a'b'c", "abc")
	reads(t, "'a''b'", "ab")
	reads(t, "'$a'", "$a")
	reads(t, "'${a}$(b)`c`'", "${a}$(b)`c`")
	reads(t, `'\'`, `\`)
	reads(t, `'\n\\'`, `\n\\`)
	reads(t, `'"'`, `"`)
	reads(t, `'${'`, "${")
	reads(t, "'a\nb'", "a\nb")
	reads(t, "'\\\n'", "\\\n")
}

func TestP1001DoubleQuotes(t *testing.T) {
	reads(t, `"x y"`, "x y")
	reads(t, `a"b"c`, "abc")
	reads(t, `"a""b"`, "ab")
	reads(t, `"$a"`, "x y")
	reads(t, `"$a$b$a"`, "x yx y")
	reads(t, `"${a}z"`, "x yz")
	reads(t, `"'"`, "'")
	reads(t, `"'$a'"`, "'x y'")
	reads(t, `"it's"`, "it's")
	reads(t, `"$?"`, "3")
	reads(t, `"$"`, "$")
	reads(t, `"$ $1 $"a`, "$ $1 $a")
	reads(t, `"(a){b};&|<>#"`, "(a){b};&|<>#")
	reads(t, `"${none:-"x y"}"`, "x y")
	reads(t, `"${none:-'x  y'}"`, "x  y")
	reads(t, `"${none:-\}}"`, "}")
	reads(t, `"a${none:-"$a"b}c"`, "ax ybc")
}

// A \ ahead of each byte, outside double quotes and within.
func TestP1001Backslashes(t *testing.T) {
	for c := range 256 {
		one := string([]byte{byte(c)})
		reads(t, `\`+one, one)
		reads(t, `a\`+one+`b`, "a"+one+"b")
		reads(t, `\`+one+`\`+one, one+one)
		if strings.Contains("$\"\\`", one) {
			reads(t, `"\`+one+`"`, one)
			reads(t, `"a\`+one+`b"`, "a"+one+"b")
		} else {
			reads(t, `"\`+one+`"`, `\`+one)
			reads(t, `"a\`+one+`b"`, `a\`+one+"b")
		}
	}
	reads(t, `\`, `\`)
	reads(t, `a\`, `a\`)
	reads(t, `\\`, `\`)
	reads(t, `\\\`, `\\`)
	reads(t, `\\\\`, `\\`)
	reads(t, `''\`, `\`)
	reads(t, `$a\`, `x y\`)
	reads(t, `\$a`, "$a")
	reads(t, `\\$a`, `\x y`)
	reads(t, `\${a}`, "${a}")
	reads(t, `$\a`, "$a")
	reads(t, `\'a\'`, "'a'")
	reads(t, `"\$a"`, "$a")
	reads(t, `"\\$a"`, `\x y`)
	reads(t, `"\${a}"`, "${a}")
	reads(t, `"$\a"`, `$\a`)
	reads(t, `"\a\ \'"`, `\a\ \'`)
	reads(t, `"\\"`, `\`)
	reads(t, `"\\\""`, `\"`)
	reads(t, `"\\\n"`, `\\n`)
	// No line is joined here: that byte 10 is quoted.
	reads(t, "a\\\nb", "a\nb")
	reads(t, "\"a\\\nb\"", "a\\\nb")
	cuts(t, "a\\\nb", "a\nb")
	refuses(t, api.ErrQuote, "\\\\\n'")
	reads(t, "$\\\n{a}", "$\n{a}")
}

func TestP1001Variables(t *testing.T) {
	for _, form := range []string{"$%", "${%}", `"$%"`, `"${%}"`} {
		of := func(name string) string { return strings.ReplaceAll(form, "%", name) }
		reads(t, of("a"), "x y")
		reads(t, of("b"), "")
		reads(t, of("none"), "")
		reads(t, of("_"), "under")
		reads(t, of("a1"), "digit")
		reads(t, of("A"), "great")
		reads(t, of("q"), "'\"\\$a`")
		reads(t, of("s")+of("a")+of("s"), " x y ")
		reads(t, "-"+of("a")+"-", "-x y-")
		sets(t, nil, of("a"), "")
		sets(t, pairs("=", "=v", "a b=c", "a=1"), of("a"), "1", pairs("=", "=v", "a b=c", "a=1")...)
	}
	// The first one of a name counts, also one that is empty.
	sets(t, pairs("a=", "a=1"), "$a${a}", "", pairs("a=", "a=1")...)
	sets(t, pairs("a=2", "a=1"), "$a${a}", "22", pairs("a=2", "a=1")...)
	// A value is not looked at again.
	sets(t, pairs("a=$b", "b='c'"), `$a"$a"${a}$b`, "$b$b$b'c'", pairs("a=$b", "b='c'")...)
}

func TestP1001NameEnds(t *testing.T) {
	vars := pairs("a=1", "ab=2", "a_=3", "a9=4", "_=5", "Z=6", "z=7")
	for word, want := range map[string]string{
		"$a": "1", "$ab": "2", "$a_": "3", "$a9": "4", "$_": "5", "$Z": "6", "$z": "7", "$abc": "", "$a9b": "", "$__": "", "$Za": "", "$zA": "",
		"$a-b": "1-b", "$a.c": "1.c", "$a$ab": "12", "$a:b": "1:b", "$a=": "1=", "$a b": "1 b", "$a'b'": "1b", `$a"b"`: "1b", "${a}b": "1b", "$a{b}": "1{b}", "$a}": "1}", "$a[": "1[", "$a/": "1/", "$a@": "1@", "$a`": "", "$a\xc3\xa9": "1\xc3\xa9", "$\xc3\xa9": "$\xc3\xa9", "$a\x00": "1\x00", `$a\b`: "1b", "$a?": "1?", "$a(": "1(", "$a*": "1*",
	} {
		if strings.Contains(word, "`") {
			refusesOver(t, vars, api.ErrQuote, word)
			continue
		}
		sets(t, vars, word, want, vars...)
	}
	for c := range 256 {
		one := string([]byte{byte(c)})
		if regexp.MustCompile(`^[A-Za-z_0-9]$`).MatchString(one) {
			sets(t, pairs("x"+one+"y=1"), "$x"+one+"y", "1", pairs("x"+one+"y=1")...)
			sets(t, pairs("x"+one+"y=1"), "${x"+one+"y}", "1", pairs("x"+one+"y=1")...)
		} else if !strings.Contains("'\"`\\$", one) {
			sets(t, pairs("x=1", "x"+one+"y=2"), "$x"+one+"y", "1"+one+"y", pairs("x=1", "x"+one+"y=2")...)
		}
		if regexp.MustCompile(`^[A-Za-z_]$`).MatchString(one) {
			sets(t, pairs(one+"=1"), "$"+one+"${"+one+"}", "11", pairs(one+"=1")...)
		} else if !strings.Contains("'\"`\\?{(", one) {
			sets(t, []api.Pair{{Name: one, Value: "1"}}, "$"+one, "$"+one, api.Pair{Name: one, Value: "1"})
		}
	}
}

func TestP1001Status(t *testing.T) {
	for _, n := range []int{0, 1, 3, 9, 10, 127, 255, 1000000, -1, -120, math.MaxInt, math.MinInt} {
		d := strconv.Itoa(n)
		for word, want := range map[string]string{"$?": d, "${?}": d, "\"$?\"": d, "\"${?}\"": d, "a$?b": "a" + d + "b", "$??": d + "?", "$?$?": d + d, "$?a": d + "a", "'$?'": "$?", `\$?`: "$?", "${none:-$?}": d, "${none-${?}}": d} {
			got, l, e := Text(pairs("?=no"), n, word)
			if got != want || e != api.OK || !slices.Equal(l, pairs("?=no")) {
				t.Errorf("Text of %q: %q, %v, %d", word, got, l, e)
			}
			fields, _, e := Expand(nil, n, nil, []string{word})
			if !slices.Equal(fields, []string{want}) || e != api.OK {
				t.Errorf("Expand of %q: %q, %d", word, fields, e)
			}
		}
	}
}

// Each form, of a variable that is set, set to nothing, not set.
func TestP1001Forms(t *testing.T) {
	vars := pairs("v=1", "e=", "v=2", "e=3")
	for _, x := range []struct{ op, set, empty, none string }{
		{":-", "1", "W", "W"}, {"-", "1", "", "W"}, {":=", "1", "W", "W"}, {"=", "1", "", "W"}, {":+", "W", "", ""}, {"+", "W", "W", ""},
	} {
		for w, text := range map[string]string{"": "", "W": "W", "x y": "x y", "'x y'": "x y", `"x y"`: "x y", "''": "", `""`: "", "$v": "1", "${v}": "1", "${v}${v}": "11", "${none2:-z}": "z", `"${none2-'z'}"`: "z", `\}`: "}", "'}'": "}", `"}"`: "}", "$?": "3", "$": "$", "a:-b": "a:-b", "-": "-", "=": "=", "+": "+", ":": ":", "?": "?", "{": "{", "(": "(", ")": ")", ";&|": ";&|", "#": "#", "*": "*", `\` + "\n": "\n", "\n": "\n"} {
			of := func(s string) string { return strings.ReplaceAll(s, "W", text) }
			for _, form := range []string{"${%s%s%s}", "\"${%s%s%s}\"", "-${%s%s%s}-"} {
				around := func(s string) string {
					if form[0] == '-' {
						return "-" + s + "-"
					}
					return s
				}
				sets(t, vars, fmt.Sprintf(form, "v", x.op, w), around(of(x.set)), vars...)
				after := slices.Clone(vars)
				if x.op == ":=" {
					after[1].Value = text
				}
				sets(t, vars, fmt.Sprintf(form, "e", x.op, w), around(of(x.empty)), after...)
				after = slices.Clone(vars)
				if x.op == ":=" || x.op == "=" {
					after = append(after, api.Pair{Name: "none", Value: text})
				}
				sets(t, vars, fmt.Sprintf(form, "none", x.op, w), around(of(x.none)), after...)
			}
		}
	}
}

// What W would be an error for is not looked at where it is not used; nothing is set there.
func TestP1001UnusedWords(t *testing.T) {
	deep := strings.Repeat("${none:-", 100) + strings.Repeat("}", 100)
	long := strings.Repeat("x", api.MaxText+1)
	for _, w := range []string{"${}", "${1}", "${v:x}", "$(c)", "`c`", deep, long, "${z=1}", "${z:=1}"} {
		for _, form := range []string{"${v:-%}", "${v-%}", "${v:=%}", "${v=%}", "${e-%}", "${e=%}", "${e:+%}", "${none:+%}", "${none+%}"} {
			want := ""
			if form[2] == 'v' {
				want = "1"
			}
			for _, around := range []string{"%", `"%"`, "${none:-%}", "${v+%}"} {
				word := strings.Replace(strings.Replace(around, "%", form, 1), "%", w, 1)
				sets(t, pairs("v=1", "e="), word, want, pairs("v=1", "e=")...)
			}
		}
	}
	// But it must have its end.
	for _, w := range []string{"'", `"`, "`", "$(", "${"} {
		refuses(t, api.ErrQuote, "${a:-"+w+"}")
		refuses(t, api.ErrQuote, "${none:+"+w+"}")
	}
}

func TestP1001SetVariables(t *testing.T) {
	// In its place, or behind all.
	sets(t, pairs("a=", "b=2"), "${a:=1}", "1", pairs("a=1", "b=2")...)
	sets(t, pairs("a=", "b=", "a=", "b="), "${b:=1}${a:=2}", "12", pairs("a=2", "b=1", "a=", "b=")...)
	sets(t, pairs("a=1"), "${b:=2}", "2", pairs("a=1", "b=2")...)
	sets(t, pairs("a=1"), "${b=}", "", pairs("a=1", "b=")...)
	sets(t, nil, "${b:=}", "", pairs("b=")...)
	sets(t, nil, "${b=2}${c=3}${a=1}", "231", pairs("b=2", "c=3", "a=1")...)
	// What stands to the right meets it, not what stands to the left.
	sets(t, nil, "$c${c=1}$c", "11", pairs("c=1")...)
	sets(t, nil, "${c=1}${c=2}", "11", pairs("c=1")...)
	sets(t, nil, "${c=}${c=2}", "", pairs("c=")...)
	sets(t, nil, "${c=}${c:=2}", "2", pairs("c=2")...)
	sets(t, nil, `"${c=1}"'$c'"$c"`, "1$c1", pairs("c=1")...)
	sets(t, nil, "${c-a}${c=b}${c-a}${c+d}", "abbd", pairs("c=b")...)
	// Within one another: what is innermost is set first.
	sets(t, nil, "${a=${b=1}$b}$a$b", "11111", pairs("b=1", "a=11")...)
	sets(t, nil, "${a=${a=1}2}$a", "1212", pairs("a=12")...)
	sets(t, pairs("a=", "a=0"), "${a:=${a:=1}2}$a", "1212", pairs("a=12", "a=0")...)
	sets(t, nil, "${a:-${b=1}}${a+no}$b", "11", pairs("b=1")...)
	sets(t, pairs("v=1"), "${v:+${b=2}}$b", "22", pairs("v=1", "b=2")...)
	// The value is W's text: quotes go, kinds too.
	sets(t, nil, `${a='x y'}"$a"`, "x yx y", pairs("a=x y")...)
	sets(t, nil, `${a=\*"*"}`, "**", pairs("a=**")...)
	sets(t, pairs("b=$c"), "${a=$b}$a", "$c$c", pairs("b=$c", "a=$c")...)
}

func TestP1001OtherBraces(t *testing.T) {
	for _, s := range []string{"", "1", "1a", "9", "a b", " a", "a ", "a:", "a:x", "a::-x", "a:?x", "a?x", "a:?", "a?", "?:-x", "?-x", "??", "?a", "a?b", "#a", "a#b", "a##b", "a%b", "a%%b", "a/b/c", "!a", "@", "*", "-", ":-x", "=x", "+", ":", "a.b", "a'b'", "'a'", `"a"`, `a"b"`, `\a`, `a\b`, "$a", "${a}", "a$b", "a${b}", "$(a)", "a$(b)", "`a`", "a`b`", "a[1]", "a,b", "a^", "a: -x", "a :-x", "a\n", "\na", "a\x00", "\xc3\xa9", "a\xc3\xa9", "a~", "a{", "{", "(a)", "a(", ")", "a>", "a&b", "a;b", "a|b", "a:*x", "a:x-y", "a.-b", "$", "a$", "a:$", "\\}", "'}'"} {
		refuses(t, api.ErrSyntax, "${"+s+"}")
		refuses(t, api.ErrSyntax, `"${`+s+`}"`)
		refuses(t, api.ErrSyntax, "x${none:-${"+s+"}}")
		refuses(t, api.ErrSyntax, "${a+${"+s+"}}y")
	}
}

func TestP1001OtherDollars(t *testing.T) {
	for _, s := range []string{"$", "$$", "$$$", "a$", "$ a", "$1", "$9a", "$-", "$@", "$*", "$#", "$!", "$:", "$}", "$)", "$/", "$.", "$,", "$=", "$+", "$\t", "$\n", "$\x00", "$é", "$;", "$>", "$[a]", "$%"} {
		reads(t, s, s)
		reads(t, `"`+s+`"`, s)
		reads(t, "${none-"+strings.ReplaceAll(s, "}", `\}`)+"}", s)
		cuts(t, s, s)
	}
	reads(t, "$'a'", "$a")
	reads(t, `$"a"`, "$a")
	reads(t, `"$"a`, "$a")
	reads(t, "$''a", "$a")
	reads(t, "$$a", "$x y")
	reads(t, "$${a}", "$x y")
	reads(t, "$a$", "x y$")
	reads(t, `"$'a'"`, "$'a'")
}

func TestP1001Commands(t *testing.T) {
	for _, s := range []string{"$(c)", "$()", "$( )", "$(c (d))", "$('c)')", "$(${)})", "$((1))", "`c`", "``", "` `", "`\\``", "`$(`", "$(`)`)"} {
		for _, around := range []string{"%", "a%", "%b", `"%"`, `"a%b"`, "${none:-%}", "${a+%}", `${none="%"}`, `"${a:+%}"`, "''%", "$a%", "${c=1}%"} {
			refuses(t, api.ErrHost, strings.ReplaceAll(around, "%", s))
		}
		for _, around := range []string{"${a:-%}", "${none:+%}", `"${a=%}"`, "${b+${a-%}}"} {
			word := strings.ReplaceAll(around, "%", s)
			if got, _, e := Text(sample(), 3, word); strings.Contains(got, "c") || e != api.OK {
				t.Errorf("Text of %q: %q, %d", word, got, e)
			}
		}
		reads(t, "'"+strings.ReplaceAll(s, "'", "")+"'", strings.ReplaceAll(s, "'", ""))
	}
	reads(t, `\$(c)`, "$(c)")
	reads(t, "\\`c\\`", "`c`")
	reads(t, "\"\\`c\\$(\"", "`c$(")
	reads(t, "$ (c)", "$ (c)")
}

// What a command is told, and what comes of what it prints: chapter 12 has them.
func TestP1001WhatCommandsPrint(t *testing.T) {
	for _, x := range []struct {
		word, command, out, text string
		fields                   []string
	}{
		{"$(c d)", "c d", "x", "x", []string{"x"}},
		{"$()", "", "", "", nil},
		{`"$()"`, "", "", "", []string{""}},
		{"$(a (b))c", "a (b)", "x\n\n", "xc", []string{"xc"}},
		{"$(c)", "c", "\n\n", "", nil},
		{`"$(c)"`, "c", "\n\n", "", []string{""}},
		{"$(c)", "c", "\nx y\n\tz\n", "\nx y\n\tz", []string{"x", "y", "z"}},
		{`"$(c)"`, "c", "\nx y\n", "\nx y", []string{"\nx y"}},
		{"$(c)", "c", "x\n ", "x\n ", []string{"x"}},
		{"$(c)", "c", "$a'b'`c`", "$a'b'`c`", []string{"$a'b'`c`"}},
		{"${none=$(c)}$none", "c", "x \n", "x x ", []string{"x", "x"}},
		{"`c d`", "c d", "x y\n", "x y", []string{"x", "y"}},
		{"\"`c`\"", "c", "x y\n", "x y", []string{"x y"}},
		{"`\\`\\$\\\\\\a\\\"\\'`", "`$\\\\a\\\"\\'", "x", "x", []string{"x"}},
		{"\"`\\`\\$\\\\\\a\\\"`\"", "`$\\\\a\\\"", "x", "x", []string{"x"}},
		{"`\\\\\\\\`", "\\\\", "x", "x", []string{"x"}},
		{`$(\$\\\a)`, `\$\\\a`, "x", "x", []string{"x"}},
		{`$('a)' "b)" \))`, `'a)' "b)" \)`, "x", "x", []string{"x"}},
	} {
		vars := sample()
		h := over(&vars, 3)
		h.Print = func(command string) (string, error) {
			if command != x.command {
				t.Errorf("%q runs %q, not %q", x.word, command, x.command)
			}
			return x.out, nil
		}
		if got, err := h.Text(x.word); err != nil || got != x.text {
			t.Errorf("%q is %q, %v, not %q", x.word, got, err, x.text)
		}
		vars = sample()
		if l, err := h.Fields(nil, []string{x.word}); err != nil || !slices.Equal(l, x.fields) {
			t.Errorf("the fields of %q are %q, not %q", x.word, l, x.fields)
		}
	}
	// What goes wrong there goes wrong here, wherever the command stands.
	vars := sample()
	h := over(&vars, 3)
	h.Print = func(string) (string, error) { return "out", api.ErrFuel }
	for _, s := range []string{"$(c)", "`c`", `"$(c)"`, "a${none:-\"`c`\"}"} {
		if got, err := h.Text(s); got != "" || !errors.Is(err, api.ErrFuel) {
			t.Errorf("%q: %q, %v", s, got, err)
		}
		if got, err := h.Pattern(s); got != "" || !errors.Is(err, api.ErrFuel) {
			t.Errorf("%q: %q, %v", s, got, err)
		}
		if l, err := h.Fields(nil, []string{"a", s}); l != nil || !errors.Is(err, api.ErrFuel) {
			t.Errorf("%q: %v, %v", s, l, err)
		}
	}
}

// Each command in a word is run once, from the left, behind what was set ahead of it.
func TestWhenCommandsRun(t *testing.T) {
	for _, x := range []struct{ word, runs string }{
		{"$(a)`b`$(c)", "a b c"},
		{"${none:=v}$(a)", "a"},
		{"${none:-$(a)}${none:+$(b)}$(c)", "a c"},
		{"$(a)${1}$(b)", "a"},
		{"'$(a)'\"$(b)\"\\$(c", "b"},
	} {
		vars := sample()
		var runs []string
		h := over(&vars, 0)
		h.Print = func(command string) (string, error) {
			runs = append(runs, command)
			if value, _ := h.Find("none"); strings.Contains(x.word, ":=") && value != "v" {
				t.Errorf("%q: a command ahead of what is set", x.word)
			}
			return "", nil
		}
		h.Text(x.word)
		if got := strings.Join(runs, " "); got != x.runs {
			t.Errorf("%q runs %s, not %s", x.word, got, x.runs)
		}
	}
}

// A pattern for a whole text: what is quoted has a \ ahead, what is open or plain has none.
func TestPattern(t *testing.T) {
	for word, want := range map[string]string{
		"": "", "*.c": "*.c", "'*'.c": `\*.c`, `"*"?`: `\*?`, `\*[a]`: `\*[a]`, "'a/b'": `\a\/\b`, "a/b": "a/b", `"$a"`: `\x\ \y`, "$a": "x y", "$p": `*\?`, `"$p"`: `\*\\\?`,
		"''": "", "$none": "", "${none:-'*'}": "*", "\"${none:-*}\"": `\*`, "$(c)": "o*", `"$(c)"`: `\o\*`, "$": "$", "'$'": `\$`, "$?": "3", `"$?"`: `\3`, "a b": "a b", "x\\": `x\\`,
	} {
		vars := append(sample(), api.Pair{Name: "p", Value: `*\?`})
		h := over(&vars, 3)
		h.Print = func(string) (string, error) { return "o*\n", nil }
		if got, err := h.Pattern(word); err != nil || got != want {
			t.Errorf("the pattern of %q is %q, %v, not %q", word, got, err, want)
		}
	}
	vars := sample()
	for word, want := range map[string]api.Errno{"'a": api.ErrQuote, "${1}": api.ErrSyntax, "$(a)": api.ErrHost, nestOf(api.MaxDeep+1, ":-", ""): api.ErrDeep, strings.Repeat("a", api.MaxText+1): api.ErrLong} {
		if got, err := over(&vars, 0).Pattern(word); got != "" || !errors.Is(err, want) {
			t.Errorf("the pattern of %.20q is %.20q, %v", word, got, err)
		}
	}
}

// Each thing that has no end, ahead of every other error, to its left too.
func TestP1001WithoutAnEnd(t *testing.T) {
	ends := []string{"'", "'a", `"`, `"a`, `"'`, `"\"`, "`", "`a", "`\\`", "$(", "$(a", "$(a (b)", "$(')", `$(")`, "$(`)", `$(\)`, "$($()", "${", "${a", "${a:-", `${a:-\}`, "${a:-'}", `${a:-"}`, "${a:-${b}", "${a:-`}", "${a:-$(}", `"${a:-'}"`, `"$(a"`, `"${a"`, "\"`a\"", "\"${a:-\"}\"", "''\"", "a'b'c'", "$'", "#'", "a b '", "\\\\'"}
	for _, s := range ends {
		refuses(t, api.ErrQuote, s)
		refuses(t, api.ErrQuote, "a"+s)
		refuses(t, api.ErrQuote, "''$a"+s)
		for _, ahead := range []string{"${}", "$(c)", "`c`", strings.Repeat("${none:-", 61) + strings.Repeat("}", 61), strings.Repeat("x", api.MaxText+1), `"${1}"`} {
			refuses(t, api.ErrQuote, ahead+s)
		}
	}
	// However deep what is open is.
	for _, n := range []int{60, 61, 1000, 60000} {
		for _, s := range []string{"$(", "${", `"${`, `"$(`} {
			refuses(t, api.ErrQuote, strings.Repeat(s, n))
		}
		refuses(t, api.ErrHost, strings.Repeat("$(", n)+strings.Repeat(")", n))
		refuses(t, api.ErrHost, strings.Repeat(`"$(`, n)+strings.Repeat(`)"`, n))
		refuses(t, api.ErrSyntax, strings.Repeat("${", n)+strings.Repeat("}", n))
	}
	for _, s := range []string{"'a'", `"\""`, "`\\``", `\'`, `\"`, `"'"`, `'"'`, `\$(`, `\${`, "$a(", "(", ")", "}", "{", `"("`, "''", "${a-(}", `'\'`} {
		if _, _, e := Text(sample(), 0, s); e == api.ErrQuote {
			t.Errorf("Text of %q: ErrQuote", s)
		}
	}
}

func TestP1001WhichErrorComesFirst(t *testing.T) {
	deep := strings.Repeat("${none:-", 61) + strings.Repeat("}", 61)
	long := strings.Repeat("x", api.MaxText+1)
	wrong := map[string]api.Errno{"${}": api.ErrSyntax, "${a:x$(c)}": api.ErrSyntax, "$(c)": api.ErrHost, "`c`": api.ErrHost, "$(${})": api.ErrHost, deep: api.ErrDeep, long: api.ErrLong, `"${1}"`: api.ErrSyntax, "'" + long + "'": api.ErrLong}
	for s, e := range wrong {
		refuses(t, e, s)
		for z := range wrong {
			refuses(t, e, "a"+s+z)
			refuses(t, e, `"$a"`+s+`"b"`+z)
			refuses(t, e, "${none:-"+s+z+"}")
			refuses(t, e, "${none:-"+s+"}"+z)
			refuses(t, e, s+"${none:-"+z+"}")
			// One that is not used does not count.
			refuses(t, e, "${a:-"+z+"}"+s)
		}
	}
	// What is full is no error yet.
	full := long[:api.MaxText]
	refuses(t, api.ErrHost, full+"$(c)")
	refuses(t, api.ErrSyntax, full+"${}")
	refuses(t, api.ErrLong, full+"y${}")
	refuses(t, api.ErrLong, full+"$?$(c)")
	// A ${..} is too deep at its beginning, whatever it is.
	refuses(t, api.ErrDeep, strings.Repeat("${none:-", 60)+"${}"+strings.Repeat("}", 60))
	refuses(t, api.ErrSyntax, strings.Repeat("${none:-", 59)+"${}"+strings.Repeat("}", 59))
	// W's text is told as a whole, ahead of what it is put behind.
	refuses(t, api.ErrSyntax, full+"${none:-y${}}")
}

func nestOf(n int, op, inner string) string {
	return strings.Repeat("${none"+op, n) + inner + strings.Repeat("}", n)
}

func TestP1001MaxDeep(t *testing.T) {
	for _, op := range []string{":-", "-", ":=", "="} {
		for _, around := range []string{"%", `"%"`, "a%b"} {
			of := func(s string) string { return strings.ReplaceAll(around, "%", s) }
			for _, n := range []int{0, 1, 2, 59, 60} {
				if got, _, e := Text(nil, 0, of(nestOf(n, op, "z"))); strings.Trim(got, `ab`) != "z" || e != api.OK {
					t.Errorf("%d of %s: %q, %d", n, op, got, e)
				}
			}
			for _, n := range []int{61, 62, 100, 5000} {
				refuses(t, api.ErrDeep, of(nestOf(n, op, "z")))
			}
			for _, inner := range []string{"${none}", "${a}", "${?}", `"${a}"`, `"x${b:-}"`} {
				if _, _, e := Text(sample(), 0, of(nestOf(59, op, inner))); e != api.OK {
					t.Errorf("60, at last %s: %d", inner, e)
				}
				refuses(t, api.ErrDeep, of(nestOf(60, op, inner)))
			}
			// Others count not at all.
			for _, inner := range []string{"$a", "$?", `"'z'"`, "'${a}'", `\${a}`} {
				if _, _, e := Text(sample(), 0, of(nestOf(60, op, inner))); e != api.OK {
					t.Errorf("60, and %s: %d", inner, e)
				}
			}
		}
	}
	// Double quotes between them neither count nor hide them.
	for _, n := range []int{1, 60, 61} {
		want := api.OK
		if n == 61 {
			want = api.ErrDeep
		}
		word := strings.Repeat(`"${none:-`, n) + "z" + strings.Repeat(`}"`, n)
		if _, _, e := Text(nil, 0, word); e != want {
			t.Errorf("%d in quotes: %d, not %d", n, e, want)
		}
		word = strings.Repeat("${a+", n) + strings.Repeat("}", n)
		if _, _, e := Text(sample(), 0, word); e != want {
			t.Errorf("%d of +: %d, not %d", n, e, want)
		}
	}
	// One behind the other are not within one another.
	if got, _, e := Text(nil, 0, strings.Repeat("${a:-${b:-z}}", 200)); got != strings.Repeat("z", 200) || e != api.OK {
		t.Errorf("200 behind one another: %.20q, %d", got, e)
	}
	half := nestOf(60, ":-", "z")
	if got, _, e := Expand(nil, 0, nil, []string{half + half, half, "${none:-" + half[8:]}); !slices.Equal(got, []string{"zz", "z", "z"}) || e != api.OK {
		t.Errorf("60 behind one another: %q, %d", got, e)
	}
}

func TestP1001MaxText(t *testing.T) {
	x := func(n int) string { return strings.Repeat("x", n) }
	full := x(api.MaxText)
	half := x(api.MaxText / 2)
	vars := pairs("f="+full, "h="+half, "l="+full+"y", "e=")
	for _, s := range []string{full, "'" + full + "'", `"` + full + `"`, "$f", "${f}", `"$f"`, "$h$h", "$h${h}", half + "$h", "${h}'" + half + "'", "${e:-$f}", "${f:+" + full + "}", "${f:-$l}", "${l+$f}", "$e$f''\"\"", strings.Repeat(`\x`, api.MaxText), "${f=y}"} {
		if got, l, e := Text(vars, 0, s); got != full || e != api.OK || !slices.Equal(l, vars) {
			t.Errorf("Text of %.40q: %d bytes, %d", s, len(got), e)
		}
		if got, _, e := Expand(vars, 0, nil, []string{s, s}); !slices.Equal(got, []string{full, full}) || e != api.OK {
			t.Errorf("Expand of %.40q: %d, %d", s, len(got), e)
		}
		for _, more := range []string{s + "-", "y" + s, s + "'y'", s + `\y`, s + "$?", `"y"` + s, s + "${none:-y}", s + "$", s + `\`} {
			refusesOver(t, vars, api.ErrLong, more)
		}
	}
	for _, s := range []string{"$l", `"$l"`, "${l}", "${l:-a}", "${e:-$l}", "${none=$l}", "${none:=$f$f}", full + full} {
		refusesOver(t, vars, api.ErrLong, s)
	}
	// Bytes of the word that stand for none don't count, however many they are.
	if got, _, e := Text(nil, 0, strings.Repeat("''", 100000)+strings.Repeat("$n", 100000)+"'z'"); got != "z" || e != api.OK {
		t.Errorf("Text of many quotes: %q, %d", got, e)
	}
	// A blank that will go counts as the word's byte all the same.
	blanks := pairs("s=" + strings.Repeat(" ", api.MaxText))
	if got, _, e := Expand(blanks, 0, nil, []string{"$s", "$s"}); len(got) != 0 || e != api.OK {
		t.Errorf("Expand of blanks: %q, %d", got, e)
	}
	refusesOver(t, blanks, api.ErrLong, "$s ")
	refusesOver(t, blanks, api.ErrLong, "${s}x")
	// What is set may be as long as a text.
	if _, l, e := Text(vars, 0, "${e:=$f}"); e != api.OK || l[3].Value != full {
		t.Errorf("a long value: %d", e)
	}
}

func TestP1002Examples(t *testing.T) {
	vars := pairs("a=x y", "b=")
	f := files(t, "a.c")
	for _, x := range []struct {
		word   string
		fields []string
	}{
		{"$a", []string{"x", "y"}}, {`"$a"`, []string{"x y"}}, {"$b", nil}, {`"$b"`, []string{""}}, {`p$a"q"`, []string{"px", "yq"}},
		{"${c:-d e}", []string{"d", "e"}}, {"${c:=z}$c", []string{"zz"}}, {"${a:+s}", []string{"s"}}, {"$?", []string{"3"}}, {"$", []string{"$"}},
		{`'a'\*`, []string{"a*"}}, {"*.c", []string{"a.c"}}, {"'*'.c", []string{"*.c"}},
	} {
		got, _, e := Expand(vars, 3, f, []string{x.word})
		if !slices.Equal(got, x.fields) || e != api.OK {
			t.Errorf("Expand of %q: %q, %d", x.word, got, e)
		}
	}
	// As the table has it, that \ is quoted, and the * is not: it finds nothing.
	if got, _, e := Expand(vars, 3, f, []string{`'a'\\*`}); !slices.Equal(got, []string{`a\*`}) || e != api.OK {
		t.Errorf("Expand of a quoted \\: %q, %d", got, e)
	}
}

func TestP1002NoWords(t *testing.T) {
	for _, words := range [][]string{nil, {}, {""}, {"", ""}, {"$b", "$none", "${b}", "${a:+}"}, {"$s", "$t", "$s$t"}} {
		got, l, e := Expand(sample(), 0, files(t, "a"), words)
		if len(got) != 0 || !slices.Equal(l, sample()) || e != api.OK {
			t.Errorf("Expand of %q: %q, %v, %d", words, got, l, e)
		}
	}
	if got, l, e := Expand(nil, 0, nil, nil); len(got) != 0 || len(l) != 0 || e != api.OK {
		t.Errorf("Expand of nothing: %q, %v, %d", got, l, e)
	}
}

func TestP1002Cuts(t *testing.T) {
	for _, row := range []string{" ", "\t", "\n", "  ", " \t\n", "\n\n \t\t "} {
		for _, x := range []struct {
			value string
			want  []string
		}{
			{"x" + row + "y", []string{"x", "y"}}, {row + "x" + row + "y" + row, []string{"x", "y"}}, {row + "x", []string{"x"}}, {"x" + row, []string{"x"}}, {row, nil}, {row + row, nil},
			{"x" + row + "y" + row + "z", []string{"x", "y", "z"}},
		} {
			for _, word := range []string{"$v", "${v}", "${v:-no}", "${none-$v}", "${v+$v}", `${none-"$v"}`, "${none=$v}", "${v}$none", "$v${v:+}"} {
				got, _, e := Expand(pairs("v="+x.value), 0, nil, []string{word})
				if !slices.Equal(got, x.want) || e != api.OK {
					t.Errorf("Expand of %q with %q: %q, %d, not %q", word, x.value, got, e, x.want)
				}
			}
			for _, word := range []string{`"$v"`, `"${v}"`, `"${none-$v}"`, `"${none-'$v'}"`, `"${v:+$v}"`} {
				got, _, e := Expand(pairs("v="+x.value), 0, nil, []string{word})
				if strings.Contains(word, "'") {
					if !slices.Equal(got, []string{"$v"}) {
						t.Errorf("Expand of %q: %q, %d", word, got, e)
					}
				} else if !slices.Equal(got, []string{x.value}) || e != api.OK {
					t.Errorf("Expand of %q with %q: %q, %d", word, x.value, got, e)
				}
			}
		}
	}
	// No other byte cuts.
	for c := range 256 {
		one := string([]byte{byte(c)})
		got, _, e := Expand([]api.Pair{{Name: "v", Value: "x" + one + "y"}}, 0, nil, []string{"$v"})
		want := []string{"x" + one + "y"}
		if one == " " || one == "\t" || one == "\n" {
			want = []string{"x", "y"}
		}
		if !slices.Equal(got, want) || e != api.OK {
			t.Errorf("Expand with a byte %d: %q, %d", c, got, e)
		}
	}
}

func TestP1002Neighbours(t *testing.T) {
	cuts(t, "p$a", "px", "y")
	cuts(t, "${a}q", "x", "yq")
	cuts(t, "p${a}q", "px", "yq")
	cuts(t, "$a$a", "x", "yx", "y")
	cuts(t, "$a$s$a", "x", "y", "x", "y")
	cuts(t, "$s$a$s", "x", "y")
	cuts(t, "p$s", "p")
	cuts(t, "${s}q", "q")
	cuts(t, "p${s}q", "p", "q")
	cuts(t, "p${t}q", "p", "q")
	cuts(t, "p${s}${t}${s}q", "p", "q")
	cuts(t, "p${s}$b${s}q", "p", "q")
	cuts(t, "p${b}q", "pq")
	cuts(t, `"$a"$a`, "x yx", "y")
	cuts(t, `$a"$a"`, "x", "yx y")
	cuts(t, `$a" "$a`, "x", "y x", "y")
	cuts(t, `$a' '$a`, "x", "y x", "y")
	cuts(t, `$a\ $a`, "x", "y x", "y")
	// The word's own blanks are bytes like any.
	cuts(t, "p q", "p q")
	cuts(t, " ", " ")
	cuts(t, " $a ", " x", "y ")
	cuts(t, "$s $s", " ")
	cuts(t, "a\tb\nc", "a\tb\nc")
	cuts(t, `"p q"`, "p q")
	cuts(t, "'p q'", "p q")
	cuts(t, `p\ q`, "p q")
	// W's text is open as a whole, or quoted as a whole.
	cuts(t, "${none:-p q}", "p", "q")
	cuts(t, "${none:-'p q'}", "p", "q")
	cuts(t, `${none:-"p q"}`, "p", "q")
	cuts(t, `${none:-p\ q}`, "p", "q")
	cuts(t, `"${none:-p q}"`, "p q")
	cuts(t, `"${none:-$a}"`, "x y")
	cuts(t, `"${none:-${none:-p q}}"`, "p q")
	cuts(t, "${none:- p }", "p")
	cuts(t, "r${none:- p }r", "r", "p", "r")
	cuts(t, "${a:+p q}", "p", "q")
	cuts(t, "${none=p q}${none}", "p", "qp", "q")
	cuts(t, `${none=p q}"$none"`, "p", "qp q")
}

func TestP1002NoBytes(t *testing.T) {
	for _, s := range []string{"''", `""`, "''''", `""''`, `"$b"`, `"$none"`, `"${b}"`, "$b''", "''$b", `$b""$none`, `"${none:-}"`, `"${none:-''}"`, `"${a:+}"`, `"$b$none"`, `"${none+x}"`, `"${none:=}"`} {
		cuts(t, s, "")
		finds(t, files(t, "a"), s, "")
	}
	for _, s := range []string{"", "$b", "${b}", "$none", "$b$none", "${none:-}", "${b:+x}", "${b-x}", "${none=}", "${a+}", "${none:-$b}"} {
		cuts(t, s)
	}
	// What is in quotes in a W is not so in the word: its text alone is.
	for _, s := range []string{"${none:-''}", `${none:-""}`, `${none:-"$b"}`, "${a+''}", "${none=''}", "${a:+${none:-''}}"} {
		cuts(t, s)
	}
	// A word of open blanks alone has bytes: they go, and quotes without bytes leave nothing behind.
	for _, s := range []string{"$s", "$t", "$s$t", "$s''", "''$s", `""$s""`, `$s"$b"$s`, "${none:- }", "${none:-' '}"} {
		cuts(t, s)
	}
	cuts(t, `"$s"`, " ")
	cuts(t, `a$s""`, "a")
	cuts(t, `""${s}a`, "a")
	cuts(t, `a$s""$s"b"`, "a", "b")
	// Each word for itself.
	got, _, e := Expand(sample(), 0, nil, []string{"''", "$b", `"$b"`, "", "x", "''"})
	if !slices.Equal(got, []string{"", "", "x", ""}) || e != api.OK {
		t.Errorf("Expand of several: %q, %d", got, e)
	}
}

func TestP1002Patterns(t *testing.T) {
	f := files(t, "a.c", "b.c", "d/", "d/x.c", "d/y.c", "*.c", ".h", "a b.h", "e/", "e/x.c", "[z]", `\q`, `\`)
	all := []string{"*.c", "a.c", "b.c"}
	finds(t, f, "*.c", all...)
	finds(t, f, "?.c", all...)
	finds(t, f, "[ab].c", "a.c", "b.c")
	finds(t, f, "$w", all...)
	finds(t, f, "${w}", all...)
	finds(t, f, "${none:-*.c}", all...)
	finds(t, f, "${none:-'*'.c}", all...)
	finds(t, f, `${none:-"*.c"}`, all...)
	finds(t, f, `${none:-\*.c}`, all...)
	finds(t, f, "d/*", "d/x.c", "d/y.c")
	finds(t, f, "*/x.c", "d/x.c", "e/x.c")
	finds(t, f, "./d//*", "d/x.c", "d/y.c")
	finds(t, f, "/d/*", "d/x.c", "d/y.c")
	finds(t, f, "?", `\`, "d", "e")
	finds(t, f, "*.h", "a b.h")
	finds(t, f, ".?", ".h")
	finds(t, f, "a*", "a b.h", "a.c")
	// What finds nothing, and what is no pattern, stands for its bytes.
	for _, s := range []string{"q*", "*.q", "x/*", "[q", "a.c", "d", "./a.c", "none", "*/*/*", "?/..", "../*", "[q]", "*.c/*"} {
		finds(t, f, s, s)
	}
	// What is quoted is itself alone.
	for _, s := range []string{"'*'.c", `"*".c`, `\*.c`, "'*.c'", `"*.c"`, `"$w"`, `"${w}"`, `"${none-*.c}"`, `"\"*`[:1] + `*.c"`} {
		finds(t, f, s, "*.c")
	}
	finds(t, f, "'?'.c", "?.c")
	finds(t, f, "'['ab].c", "[ab].c")
	// No byte is quoted among members.
	finds(t, f, `[ab\].c`, "a.c", "b.c")
	finds(t, f, `"[ab].c"`, "[ab].c")
	finds(t, f, "'*'*", "*.c")
	finds(t, f, `\**`, "*.c")
	finds(t, f, `"*"?c`, "*.c")
	finds(t, f, "'a.'*", "a.c")
	finds(t, f, `"a "*`, "a b.h")
	finds(t, f, `a\ *`, "a b.h")
	finds(t, f, "a *", "a b.h")
	finds(t, f, `'\'*`, `\`, `\q`)
	finds(t, f, `\\*`, `\`, `\q`)
	finds(t, f, `"\\"*`, `\`, `\q`)
	finds(t, f, `"\q"*`, `\q`)
	finds(t, f, "'['*", "[z]")
	finds(t, f, `\[?\]`, "[z]")
	finds(t, f, "'.'?", ".h")
	finds(t, f, `*\c`, all...)
	// A quoted / parts names like any other.
	for _, s := range []string{`"d/"*`, "'d/'*", `d\/*`, `d'/'*`, `d"/"?.c`} {
		finds(t, f, s, "d/x.c", "d/y.c")
	}
	// A quoted . is a name of the pattern as any other.
	finds(t, f, `"./d/"*`, "./d/*")
	finds(t, f, `*\/x.c`, "d/x.c", "e/x.c")
	finds(t, f, `*"/x.c"`, "d/x.c", "e/x.c")
	// Each field for itself.
	got, _, e := Expand(pairs("v=*.c q* d/* 'x'"), 0, f, []string{"$v", "*.h", "z", `"$v"`})
	want := append(slices.Clone(all), "q*", "d/x.c", "d/y.c", "'x'", "a b.h", "z", "*.c q* d/* 'x'")
	if !slices.Equal(got, want) || e != api.OK {
		t.Errorf("Expand of several patterns: %q, %d", got, e)
	}
	// A field is not cut again, and not looked at again, behind what it found.
	finds(t, files(t, "$a *"), "?a*", "$a *")
	// A \ of a value quotes in the pattern, and is a byte, if that finds nothing.
	got, _, e = Expand(pairs(`v=\**`, `u=\*.c`, `x=\*q*`), 0, f, []string{"$v", "$u", "$x"})
	if !slices.Equal(got, []string{"*.c", `\*.c`, `\*q*`}) || e != api.OK {
		t.Errorf("Expand of \\ in values: %q, %d", got, e)
	}
}

func TestP1002WithoutAFileSystem(t *testing.T) {
	for _, s := range []string{"*", "?.c", "[ab]*", "*/*", "*.c"} {
		cuts(t, s, s)
		finds(t, files(t), s, s)
		finds(t, new(vfs.FS), s, s)
	}
	cuts(t, "$w", "*.c")
	cuts(t, "$w$s$w", "*.c", "*.c")
	// Text looks for no file: it is not even told of any.
	reads(t, "*", "*")
	reads(t, "$w ? [a]", "*.c ? [a]")
}

func TestP1002Variables(t *testing.T) {
	for _, x := range []struct {
		words, want []string
		after       []api.Pair
	}{
		{[]string{"${n:=1}", "$n", "*.c"}, []string{"1", "1", "*.c"}, pairs("a=", "n=1")},
		{[]string{"$n", "${n:=1}"}, []string{"1"}, pairs("a=", "n=1")},
		{[]string{"${n=1 2}", `"$n"`, "${n=3}"}, []string{"1", "2", "1 2", "1", "2"}, pairs("a=", "n=1 2")},
		{[]string{"${a:=1}", "${n=$a$a}", "${m=$n}"}, []string{"1", "11", "11"}, pairs("a=1", "n=11", "m=11")},
		{[]string{"${n=}", "${n:=2}", "${n:+3}"}, []string{"2", "3"}, pairs("a=", "n=2")},
		{[]string{"${a=1}", "${n+2}"}, nil, pairs("a=")},
	} {
		got, after, e := Expand(pairs("a="), 0, nil, x.words)
		if !slices.Equal(got, x.want) || !slices.Equal(after, x.after) || e != api.OK {
			t.Errorf("Expand of %q: %q, %v, %d", x.words, got, after, e)
		}
	}
}

// The words go one behind the other: what is wrong in one comes ahead of what is wrong in the next.
func TestP1002WhichErrorComesFirst(t *testing.T) {
	many := strings.Repeat("x ", api.MaxWords+1)
	vars := append(sample(), api.Pair{Name: "m", Value: many})
	wrong := map[string]api.Errno{"'": api.ErrQuote, "${}": api.ErrSyntax, "$(c)": api.ErrHost, nestOf(61, "-", ""): api.ErrDeep, strings.Repeat("x", api.MaxText+1): api.ErrLong, "$m": api.ErrLong, "${": api.ErrQuote}
	for s, e := range wrong {
		for z := range wrong {
			for _, words := range [][]string{{s}, {"a", s}, {s, "a"}, {s, z}, {"a", s, "b", z}, {"${a:-" + strings.Trim(z, "'${") + "}", s}} {
				if got, l, f := Expand(vars, 0, nil, words); len(got) != 0 || len(l) != 0 || f != e {
					t.Errorf("Expand of %.100q: %d, not %d", words, f, e)
				}
			}
		}
	}
	// A word's own errors come ahead of its fields.
	if _, _, e := Expand(vars, 0, nil, []string{"$m${}"}); e != api.ErrSyntax {
		t.Errorf("too many fields ahead of ErrSyntax: %d", e)
	}
}

func TestP1002MaxWords(t *testing.T) {
	all := func(n int) []string { return slices.Repeat([]string{"x"}, n) }
	values := pairs("m="+strings.Repeat("x ", api.MaxWords), "h="+strings.Repeat("\tx\n", api.MaxWords/2), "o=x", "e=")
	for _, words := range [][]string{{"$m"}, {"$h", "$h"}, {"${h}${h}"}, all(api.MaxWords), append(all(api.MaxWords/2), "$h"), append(slices.Repeat([]string{"$e"}, 10000), "$m")} {
		got, l, e := Expand(values, 0, nil, words)
		if !slices.Equal(got, all(api.MaxWords)) || !slices.Equal(l, values) || e != api.OK {
			t.Errorf("Expand of %.40q: %d fields, %d", words, len(got), e)
		}
		for _, more := range []string{"x", "$o", "''", `"$e"`, "*"} {
			if got, l, e := Expand(values, 0, nil, append(slices.Clone(words), more)); len(got) != 0 || len(l) != 0 || e != api.ErrLong {
				t.Errorf("Expand of one more: %d fields, %d", len(got), e)
			}
		}
		for _, none := range []string{"", "$e", "${none+x}"} {
			if got, _, e := Expand(values, 0, nil, append(slices.Clone(words), none)); len(got) != api.MaxWords || e != api.OK {
				t.Errorf("Expand of no more: %d fields, %d", len(got), e)
			}
		}
	}
	if _, _, e := Expand(values, 0, nil, []string{"z$m"}); e != api.OK {
		t.Errorf("the first one longer: %d", e)
	}
	if _, _, e := Expand(values, 0, nil, []string{"${m}x"}); e != api.ErrLong {
		t.Errorf("one more in the word: %d", e)
	}
	// What patterns find counts.
	var names []string
	for i := range 500 {
		names = append(names, fmt.Sprintf("f%03d", i))
	}
	f := files(t, names...)
	got, _, e := Expand(nil, 0, f, slices.Repeat([]string{"f*"}, 10))
	if !slices.Equal(got, slices.Repeat(names, 10)) || e != api.OK {
		t.Errorf("Expand of patterns: %d fields, %d", len(got), e)
	}
	if got, _, e := Expand(nil, 0, f, append(slices.Repeat([]string{"f*"}, 10), "f000")); len(got) != 0 || e != api.ErrLong {
		t.Errorf("Expand of patterns and one more: %d fields, %d", len(got), e)
	}
	if got, _, e := Expand(pairs("v="+strings.Repeat("* ", 30000)), 0, f, []string{"$v"}); len(got) != 0 || e != api.ErrLong {
		t.Errorf("Expand of many patterns: %d fields, %d", len(got), e)
	}
	// Text has no fields.
	if _, _, e := Text(pairs("v="+strings.Repeat("x ", 30000)), 0, "$v"); e != api.OK {
		t.Errorf("Text of many: %d", e)
	}
}

// shortTexts tells all texts of these letters, up to so many.
func shortTexts(letters string, most int) []string {
	l := []string{""}
	for from := 0; most > 0; most-- {
		to := len(l)
		for _, s := range l[from:to] {
			for i := range len(letters) {
				l = append(l, s+letters[i:i+1])
			}
		}
		from = to
	}
	return l
}

func TestP1001AllShortTexts(t *testing.T) {
	f := files(t, "x", "y", "a", `\`, "*")
	for _, x := range []struct {
		letters string
		most    int
	}{{"$a{}:-='\"\\", 5}, {"$(){`'\"\\ab", 4}, {"ab$?*/' \\\"", 4}, {"+b-{}:$s", 5}} {
		for _, s := range shortTexts(x.letters, x.most) {
			asThePlain(t, sample(), 3, f, s)
		}
	}
}

// Within ${ .. } all short texts, which the shortest of all would not come to.
func TestP1001AllShortBraces(t *testing.T) {
	for _, s := range shortTexts("ab:-=+?'\"", 4) {
		asThePlain(t, sample(), 12, nil, "${"+s+"}")
		asThePlain(t, sample(), 12, nil, "\"${"+s+"}\"$b")
	}
	for _, s := range shortTexts("ac$s'\"\\} ", 4) {
		asThePlain(t, sample(), 3, nil, "${b:="+s+"}$b")
		asThePlain(t, sample(), 3, nil, `"${c-`+s+`}"`)
	}
}

// grown makes a word of parts within one another.
func grown(r *rand.Rand, deep int) string {
	var b strings.Builder
	for range r.Intn(4) {
		switch n := r.Intn(14); {
		case n < 3:
			b.WriteString([]string{"x", "*", "?", "/", "a b", ".c", "d/", "[a]", "$", ":", "="}[r.Intn(11)])
		case n == 3:
			b.WriteString("'" + []string{"", "x y", "$a", "*", "/", `"`, `\`, "${"}[r.Intn(8)] + "'")
		case n == 4:
			b.WriteString(`\` + string("a$'\"\\`* /}\n"[r.Intn(11)]))
		case n < 7:
			b.WriteString("$" + []string{"a", "b", "c", "s", "t", "w", "q", "?", "_", "1", "-"}[r.Intn(11)])
		case n == 7 && deep > 0:
			b.WriteString(`"` + strings.NewReplacer("'", "", `"`, "").Replace(grown(r, 0)) + grownBrace(r, deep-1) + `"`)
		case n < 12 && deep > 0:
			b.WriteString(grownBrace(r, deep-1))
		case n == 12:
			b.WriteString("${" + []string{"a", "?", "b", "c", "", "1"}[min(5, r.Intn(24)/4)] + "}")
		case r.Intn(12) == 0:
			b.WriteString([]string{"$(x)", "`x`", "${}", "${a:q}"}[r.Intn(4)])
		}
	}
	return b.String()
}

func grownBrace(r *rand.Rand, deep int) string {
	name := []string{"a", "b", "c", "c", "d", "s", "w"}[r.Intn(7)]
	op := []string{":-", "-", ":=", "=", ":+", "+"}[r.Intn(6)]
	return "${" + name + op + grown(r, deep) + "}"
}

func TestP1002GrownWords(t *testing.T) {
	f := files(t, "a.c", "b.c", "d/", "d/x.c", "*.c", ".h", "x", `\`, "a b", "$")
	r := rand.New(rand.NewSource(10))
	seen := map[api.Errno]int{}
	for i := range 60000 {
		var words []string
		for range r.Intn(4) {
			words = append(words, grown(r, 4))
		}
		if len(words) > 0 && i%4 == 0 {
			words[0] = spoilt(r, words[0])
		}
		seen[asThePlain(t, sample(), r.Intn(300)-20, f, words...)]++
	}
	for _, e := range []api.Errno{api.OK, api.ErrQuote, api.ErrSyntax, api.ErrHost} {
		if seen[e] < 100 {
			t.Errorf("the error %d is met %d times alone", e, seen[e])
		}
	}
}

// spoilt takes a byte of a text away, or puts one in.
func spoilt(r *rand.Rand, s string) string {
	at := r.Intn(len(s) + 1)
	if at < len(s) && r.Intn(2) == 0 {
		return s[:at] + s[at+1:]
	}
	return s[:at] + string("'\"\\`${}():-=+"[r.Intn(13)]) + s[at:]
}

// sharing tells whether two texts have memory in common.
func sharing(a, b string) bool {
	if a == "" || b == "" {
		return false
	}
	p, q := uintptr(unsafe.Pointer(unsafe.StringData(a))), uintptr(unsafe.Pointer(unsafe.StringData(b)))
	return p < q+uintptr(len(b)) && q < p+uintptr(len(a))
}

// textsOf tells the texts of variables.
func textsOf(vars []api.Pair) []string {
	var l []string
	for _, p := range vars {
		l = append(l, p.Name, p.Value)
	}
	return l
}

// apart asks that no two texts have memory in common, but for those among the given ones.
func apart(t *testing.T, given, told []string) {
	t.Helper()
	for i, s := range told {
		for _, g := range append(slices.Clone(given), told[i+1:]...) {
			if sharing(s, g) {
				t.Errorf("%.40q shares memory with %.40q", s, g)
			}
		}
	}
}

func TestP1003NewMemory(t *testing.T) {
	word := strings.Clone("long-word-itself")
	setting := strings.Clone("${fresh:=of-a-word}")
	named := strings.Clone("$name")
	quoted := strings.Clone("'in-quotes'")
	pattern := strings.Clone("*.long")
	vars := pairs(strings.Clone("name=some value here"), strings.Clone("other=*.none"), strings.Clone("empty="))
	f := files(t, "file.long", "next.long")
	words := []string{word, setting, named, quoted, pattern, "$other", "${empty:=$name}", "$fresh", "$empty"}
	fields, after, e := Expand(vars, 0, f, words)
	if e != api.OK || len(after) != 4 {
		t.Fatal(fields, after, e)
	}
	given := append(slices.Clone(words), textsOf(vars)...)
	apart(t, given, append(slices.Clone(fields), textsOf(after)...))
	for _, s := range words {
		text, after, e := Text(vars, 0, s)
		if e != api.OK {
			t.Fatal(s, e)
		}
		apart(t, given, append([]string{text}, textsOf(after)...))
	}
	if got, after, _ := Expand(vars, 0, nil, nil); len(got) != 0 || len(after) != len(vars) {
		t.Error(got, after)
	} else {
		apart(t, given, textsOf(after))
	}
}

// What is handed in stays as it is, its spare room too; what was answered stays, whatever is written over behind the call.
func TestP1003HandedIn(t *testing.T) {
	mark := api.Pair{Name: "spare", Value: "room"}
	room := append(append(make([]api.Pair, 0, 12), sample()...), mark, mark)
	vars := room[:len(sample())]
	spare := append(make([]string, 0, 6), "${new:=1 2}", "${b:=3}", "$new", "*", "spare", "room")
	words := spare[:4]
	f := files(t, "x", "d/", "d/y")
	tree := f.Tree()
	fields, after, e := Expand(vars, 3, f, words)
	text, behind, g := Text(vars, 3, words[0])
	wantFields := []string{"1", "2", "3", "1", "2", "d", "x"}
	wantAfter := append(sample(), api.Pair{Name: "new", Value: "1 2"})
	wantBehind := slices.Clone(wantAfter)
	wantAfter[1].Value = "3"
	as := func() bool {
		return slices.Equal(fields, wantFields) && slices.Equal(after, wantAfter) && text == "1 2" && slices.Equal(behind, wantBehind)
	}
	if e != api.OK || g != api.OK || !as() {
		t.Fatal(fields, after, e, text, behind, g)
	}
	if !slices.Equal(room, append(sample(), mark, mark)) || !slices.Equal(spare, []string{"${new:=1 2}", "${b:=3}", "$new", "*", "spare", "room"}) {
		t.Error("what was handed in is changed", room, spare)
	}
	if !sameTree(f.Tree(), tree) {
		t.Error("the file system is changed")
	}
	clear(room)
	clear(spare)
	f.Remove("x")
	if !as() {
		t.Error("what was answered is changed by what was handed in")
	}
	// What was answered is the caller's: the next call does not meet what is written there.
	for _, l := range [][]api.Pair{after, behind} {
		clear(l[:cap(l)])
	}
	clear(fields[:cap(fields)])
	again, _, e := Expand(sample(), 3, nil, []string{"${new:=1 2}", "$a"})
	if !slices.Equal(again, []string{"1", "2", "x", "y"}) || e != api.OK {
		t.Error(again, e)
	}
}

// The two lists of an answer have no room in common, nor has any list with what is handed in.
func TestP1003ListsOfTheirOwn(t *testing.T) {
	room := make([]api.Pair, 3, 10)
	copy(room, pairs("a=1", "b=2", "c=3"))
	_, one, _ := Text(room, 0, "${d=4}")
	_, two, _ := Text(room, 0, "${e=5}")
	fields, three, _ := Expand(room, 0, nil, []string{"${f=6}"})
	for _, l := range []*[]api.Pair{&one, &two, &three} {
		(*l)[0].Value = "over"
		*l = append(*l, api.Pair{Name: "more"})
	}
	_ = append(fields, "more")
	if !slices.Equal(room[:10], append(pairs("a=1", "b=2", "c=3"), make([]api.Pair, 7)...)) {
		t.Error("what was handed in is changed", room[:10])
	}
	if one[3].Name != "d" || two[3].Name != "e" || three[3].Name != "f" || fields[0] != "6" {
		t.Error("answers share their lists", one, two, three)
	}
}

func sameTree(a, b api.Tree) bool {
	return a.Clock == b.Clock && a.Room == b.Room && slices.EqualFunc(a.Nodes, b.Nodes, func(x, y api.Node) bool {
		return x.Path == y.Path && x.Dir == y.Dir && x.Time == y.Time && bytes.Equal(x.Data, y.Data)
	})
}

// Beside an error nothing is answered, and nothing is set, however much was done by then.
func TestP1003BesideAnError(t *testing.T) {
	f := files(t, "x", "y")
	tree := f.Tree()
	vars := sample()
	for _, s := range []string{"'", "${", "${}", "$(c)", "`c`", nestOf(61, "-", ""), strings.Repeat("x", api.MaxText+1), "${new=1}${}", "${b:=1}$(c)", "${new=${}}"} {
		for _, words := range [][]string{{s}, {"*", "${b:=2}", s}, {"${c=1}" + s}, {"a", s, "b"}} {
			fields, after, e := Expand(vars, 0, f, words)
			if fields != nil || after != nil || e == api.OK {
				t.Errorf("Expand of %.60q: %v, %v, %d", words, fields, after, e)
			}
		}
		text, after, e := Text(vars, 0, "${c=1}*"+s)
		if text != "" || after != nil || e == api.OK {
			t.Errorf("Text of %.60q: %q, %v, %d", s, text, after, e)
		}
	}
	if !slices.Equal(vars, sample()) || !sameTree(f.Tree(), tree) {
		t.Error("a call that answered an error has changed something")
	}
}

// What is answered hangs on the arguments alone.
func TestP1003HangsOnItsArgumentsAlone(t *testing.T) {
	f := files(t, "a.c", "b.c", "d/", "d/x.c")
	r := rand.New(rand.NewSource(7))
	var asked [][]string
	for range 200 {
		asked = append(asked, []string{grown(r, 4), grown(r, 3)})
	}
	told := func(i int) string {
		fields, after, e := Expand(sample(), i, f, asked[i])
		text, behind, g := Text(sample(), i, asked[i][0])
		return fmt.Sprintf("%q %q %d %q %q %d", fields, after, e, text, behind, g)
	}
	var first []string
	for i := range asked {
		first = append(first, told(i))
	}
	var wait sync.WaitGroup
	for g := range 8 {
		wait.Go(func() {
			for i := range asked {
				if at := (i*7 + g*31) % len(asked); told(at) != first[at] {
					t.Errorf("%q is told otherwise", asked[at])
				}
			}
		})
	}
	wait.Wait()
}

func FuzzField(f *testing.F) {
	for _, s := range []string{"$a", `"${b:-x y}"`, "${c:=$a}$c", `'*'.c"\$`, "${a", "`x`", "$(a (b))", "${none=${b:='p q'}}", "\\"} {
		f.Add(s, "v w", 3)
	}
	fs := files(f, "a.c", "b.c", "d/", "d/x.c", "*.c", "x")
	f.Fuzz(func(t *testing.T, word, value string, status int) {
		vars := append(sample(), api.Pair{Name: "v", Value: value})
		asThePlain(t, vars, status, fs, word, "$v", `"$v"`, word+"$v")
		asThePlain(t, vars, status, nil, "${v:-"+word+"}", "${c="+word+"}$c")
	})
}
