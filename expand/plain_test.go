package expand

import (
	"math/rand"
	"path"
	"slices"
	"strconv"
	"strings"
	"testing"

	"anvil/api"
	"anvil/refs"
	"anvil/vars"
)

// A plain telling of the chapter, to hold Expand against: what is known at a place is handed down, so that nothing has to be put back, and an error is a panic.

type bound struct {
	api.Var
	outer *bound
}

func (b *bound) find(name string) (api.Var, bool) {
	for ; b != nil; b = b.outer {
		if b.Name == name {
			return b.Var, true
		}
	}
	return api.Var{}, false
}

type scene struct {
	fuel  *int
	known *bound
	busy  []string
	deep  int
}

func (c scene) with(name, value string) scene {
	c.known = &bound{automatic(name, value), c.known}
	return c
}

func plainly(s *vars.Store, text string, fuel int) (out string, left int, e api.Errno) {
	defer func() {
		if wrong, ok := recover().(api.Errno); ok {
			out, left, e = "", 0, wrong
		}
	}()
	left = max(fuel, 0)
	c := scene{fuel: &left}
	for _, v := range s.List() {
		c.known = &bound{v, c.known}
	}
	return c.told(text), left, api.OK
}

func must(holds bool, e api.Errno) {
	if !holds {
		panic(e)
	}
}

func bounded(s string) string {
	must(len(s) <= api.MaxText, api.ErrLong)
	return s
}

func cut(s string) []string {
	return strings.FieldsFunc(s, func(r rune) bool { return r == ' ' || r == '\t' || r == '\n' })
}

func trimmed(s string) string { return strings.Trim(s, " \t\n") }

func (c scene) told(text string) string {
	parts, e := refs.Parse(text)
	must(e == api.OK, e)
	all := ""
	for _, p := range parts {
		if p.Kind == 1 {
			all = bounded(all + p.Text)
			continue
		}
		must(*c.fuel > 0, api.ErrFuel)
		*c.fuel--
		in := c
		in.deep++
		must(in.deep <= 60, api.ErrDeep)
		if p.Kind == 2 {
			all = bounded(all + in.asked(p.Text))
		} else {
			all = bounded(all + in.worked(p.Name, p.Args, in.told))
		}
	}
	return all
}

func (c scene) asked(s string) string {
	s = c.told(s)
	at := strings.IndexByte(s, ':')
	if at < 0 || !strings.Contains(s[at:], "=") {
		return c.worth(s, true)
	}
	from, to, _ := strings.Cut(s[at+1:], "=")
	if !strings.Contains(from, "%") {
		from, to = "%"+from, "%"+to
	}
	return turned(cut(c.worth(s[:at], true)), from, to)
}

func (c scene) worth(name string, counts bool) string {
	if len(name) == 2 && strings.Contains("@%<?^+*|", name[:1]) && (name[1] == 'D' || name[1] == 'F') {
		if v, ok := c.known.find(name[:1]); ok && v.Origin == api.OrigAuto {
			l := cut(v.Value)
			for i, w := range l {
				dir, file := path.Split(w)
				if name[1] == 'F' {
					l[i] = file
				} else if l[i] = strings.TrimSuffix(dir, "/"); dir == "" {
					l[i] = "."
				} else if dir == "/" {
					l[i] = dir
				}
			}
			return bounded(strings.Join(l, " "))
		}
	}
	v, _ := c.known.find(name)
	switch {
	case name == "":
		return ""
	case v.Flav != api.FlavRecursive:
		return bounded(v.Value)
	case counts:
		must(!slices.Contains(c.busy, name), api.ErrSelf)
		c.busy = append(slices.Clip(c.busy), name)
	}
	return c.told(v.Value)
}

// matched tells the stem of a word, if a pattern matches it.
func matched(pattern, word string) (string, bool) {
	head, tail, some := strings.Cut(pattern, "%")
	if !some {
		return "", pattern == word
	}
	if len(word) < len(head)+len(tail) || word[:len(head)] != head || word[len(word)-len(tail):] != tail {
		return "", false
	}
	return word[len(head) : len(word)-len(tail)], true
}

func turned(words []string, from, to string) string {
	size := 0
	var l []string
	for _, w := range words {
		if stem, ok := matched(from, w); ok {
			w = to
			if strings.Contains(from, "%") {
				w = strings.Replace(to, "%", stem, 1)
			}
		}
		l = append(l, w)
		size += len(w) + 1
		must(size-1 <= api.MaxText, api.ErrLong)
	}
	return strings.Join(l, " ")
}

func (c scene) worked(name string, args []string, told func(string) string) string {
	least, most := refs.Bounds(name)
	must(len(args) >= least, api.ErrRef)
	if most > 0 {
		args = args[:min(most, len(args))]
	}
	args = append([]string{strings.TrimLeft(args[0], " \t\n")}, args[1:]...)
	switch name {
	case "if":
		if told(trimmed(args[0])) != "" {
			return told(args[1])
		} else if len(args) == 3 {
			return told(args[2])
		}
		return ""
	case "or", "and":
		last := ""
		for _, a := range args {
			if last = told(trimmed(a)); (last == "") == (name == "and") {
				return last
			}
		}
		return last
	case "foreach":
		return c.looped(args, told)
	}
	for i, a := range args {
		args[i] = told(a)
	}
	if name == "call" {
		return c.called(args)
	}
	return c.simply(name, args)
}

func (c scene) looped(args []string, told func(string) string) string {
	// What is expanded already is itself, whatever is known.
	ready := told("$$") == "$$"
	name, all := told(args[0]), ""
	for i, w := range cut(told(args[1])) {
		if i > 0 {
			all += " "
		}
		if ready {
			all += args[2]
		} else {
			all += c.with(name, w).told(args[2])
		}
		bounded(all)
	}
	return all
}

func (c scene) called(args []string) string {
	name := trimmed(args[0])
	if slices.Contains(refs.Funcs(), name) {
		return c.worked(name, args[1:], func(s string) string { return s })
	}
	for i := 9; i > 0; i-- {
		c = c.with(strconv.Itoa(i), "")
	}
	c = c.with("0", name)
	for i, a := range args[1:] {
		c = c.with(strconv.Itoa(i+1), a)
	}
	return c.worth(name, false)
}

func nth(s string, least int) int {
	s = trimmed(s)
	must(s != "" && len(s) <= 9 && strings.Trim(s, "0123456789") == "", api.ErrNumber)
	n, _ := strconv.Atoi(s)
	must(n >= least, api.ErrNumber)
	return n
}

// chosen are the words that are of a place from n to m.
func chosen(words []string, n, m int) string {
	var l []string
	for i, w := range words {
		if n <= i+1 && i+1 <= m {
			l = append(l, w)
		}
	}
	return strings.Join(l, " ")
}

func (c scene) simply(name string, args []string) string {
	last := cut(args[len(args)-1])
	each := func(f func(string) string) string {
		l := slices.Clone(last)
		for i, w := range l {
			l[i] = f(w)
		}
		return strings.Join(l, " ")
	}
	ext := func(w string) string {
		_, file := path.Split(w)
		return path.Ext(file)
	}
	v, _ := c.known.find(args[0])
	switch name {
	case "subst":
		if args[0] == "" {
			return bounded(args[2] + args[1])
		}
		return bounded(strings.ReplaceAll(args[2], args[0], args[1]))
	case "patsubst":
		return turned(last, args[0], args[1])
	case "strip":
		return strings.Join(last, " ")
	case "findstring":
		if strings.Contains(args[1], args[0]) {
			return args[0]
		}
		return ""
	case "sort":
		slices.Sort(last)
		return strings.Join(slices.Compact(last), " ")
	case "filter", "filter-out":
		var l []string
		for _, w := range last {
			if slices.ContainsFunc(cut(args[0]), func(p string) bool { _, ok := matched(p, w); return ok }) == (name == "filter") {
				l = append(l, w)
			}
		}
		return strings.Join(l, " ")
	case "word":
		n := nth(args[0], 1)
		return chosen(last, n, n)
	case "wordlist":
		return chosen(last, nth(args[0], 1), nth(args[1], 0))
	case "words":
		return strconv.Itoa(len(last))
	case "firstword":
		return chosen(last, 1, 1)
	case "lastword":
		return chosen(last, len(last), len(last))
	case "dir":
		return each(func(w string) string {
			if d, _ := path.Split(w); d != "" {
				return d
			}
			return "./"
		})
	case "notdir":
		return each(func(w string) string { _, file := path.Split(w); return file })
	case "suffix":
		return strings.Join(slices.DeleteFunc(cut(each(func(w string) string { return ext(w) })), func(w string) bool { return w == "" }), " ")
	case "basename":
		return each(func(w string) string { return strings.TrimSuffix(w, ext(w)) })
	case "addsuffix":
		return each(func(w string) string { return w + args[0] })
	case "addprefix":
		return each(func(w string) string { return args[0] + w })
	case "join":
		var l []string
		one := cut(args[0])
		for i := range max(len(one), len(last)) {
			l = append(l, strings.Join(append(slices.Clone(one[min(i, len(one)):min(i+1, len(one))]), last[min(i, len(last)):min(i+1, len(last))]...), ""))
		}
		return strings.Join(l, " ")
	case "abspath":
		return each(func(w string) string { return path.Clean("/" + w) })
	case "value":
		return bounded(v.Value)
	case "origin":
		return [...]string{"undefined", "default", "environment", "file", "environment override", "command line", "override", "automatic"}[v.Origin]
	case "flavor":
		return [...]string{"undefined", "recursive", "simple"}[v.Flav]
	case "error":
		panic(api.ErrUser)
	case "warning", "info":
		return ""
	}
	panic(api.ErrHost) // shell, eval, and wildcard without files
}

// growth makes texts.
type growth struct{ *rand.Rand }

func (g growth) of(l ...string) string { return l[g.Intn(len(l))] }

func (g growth) name() string {
	return g.of("a", "b", "c", "d", "e", "f", "g", "h", "i", "j", "0", "1", "2", "3", "10", "@", "@D", "@F", "none", "", "a b")
}

func (g growth) bytes() string {
	return g.of("x", "y.c", "p/q.c z/", " ", "  x\t", "", "1", "2", "0", "3 4", "%", "%.c", "x%", ":", "=", ",", "$$", "a b c", "$$(a)", "..", "/", "\n", "a", "f", "strip", "if", "foreach", "i")
}

func (g growth) text(deep int) string {
	var b strings.Builder
	for range g.Intn(3) + g.Intn(2) {
		b.WriteString(g.piece(deep))
	}
	return b.String()
}

func (g growth) piece(deep int) string {
	if deep == 0 {
		return g.bytes()
	}
	switch n := g.Intn(100); {
	case n < 30:
		return g.bytes()
	case n < 45:
		return "$(" + g.name() + ")"
	case n < 48:
		return "$" + g.of("a", "1", "@", "i", "f", "z")
	case n < 53:
		return "${" + g.text(deep-1) + "}"
	case n < 60:
		return "$(" + g.name() + ":" + g.of("%", ".c", "", "x%", g.text(deep-1)) + "=" + g.of("%.o", ".o", "", "y", g.text(deep-1)) + ")"
	case n < 62:
		return g.of("$(", "${", "$(x", ")", "}")
	case n < 68:
		return "$(foreach " + g.of("i", "j", "a", "1", "@", "f") + "," + g.of("1 2", "x", "", "p/q r", g.text(deep-1)) + "," + g.text(deep-1) + ")"
	case n < 76:
		return g.call(deep)
	}
	names := refs.Funcs()
	name := names[g.Intn(len(names))]
	if (name == "error" || name == "shell" || name == "eval" || name == "wildcard") && g.Intn(4) > 0 {
		name = g.of("if", "or", "and")
	}
	least, most := refs.Bounds(name)
	n := max(least, most)
	if most < 0 {
		n = least + g.Intn(3)
	}
	if g.Intn(30) == 0 {
		n--
	}
	return "$(" + name + g.of(" ", " ", "  ", "\t") + g.args(n, deep) + ")"
}

func (g growth) call(deep int) string {
	to := g.name()
	if g.Intn(3) == 0 {
		to = g.of(refs.Funcs()...)
	}
	if g.Intn(8) == 0 {
		to = g.text(deep - 1)
	}
	s := "$(call " + to
	if n := g.Intn(5); n > 0 {
		s += "," + g.args(n, deep)
	}
	return s + ")"
}

func (g growth) args(n, deep int) string {
	var l []string
	for range n {
		l = append(l, g.of(g.text(deep-1), g.text(deep-1), g.bytes(), "1"))
	}
	return strings.Join(l, ",")
}

func (g growth) store() *vars.Store {
	s := vars.New()
	for _, name := range []string{"a", "b", "c", "d", "e", "f", "g", "h", "i", "1", "10", "@", "a b"} {
		if g.Intn(4) == 0 {
			continue
		}
		s.Set(name, g.text(g.Intn(3)), 1+g.Intn(2), 1+g.Intn(7))
	}
	return s
}

func agree(t *testing.T, s *vars.Store, text string, fuel int) api.Errno {
	t.Helper()
	got, left, e := Expand(s, nil, text, fuel)
	wanted, rest, wrong := plainly(s, text, fuel)
	if got != wanted || left != rest || e != wrong {
		t.Errorf("%q with %d:\n%q, %d, %d, not\n%q, %d, %d;\n%+v", short(text), fuel, short(got), left, int(e), short(wanted), rest, int(wrong), s.List())
	}
	return e
}

func TestAgainstThePlainTelling(t *testing.T) {
	g := growth{rand.New(rand.NewSource(16))}
	seen := map[api.Errno]int{}
	for range 3000 {
		s := g.store()
		before := s.List()
		for range 20 {
			text := g.text(1 + g.Intn(4))
			seen[agree(t, s, text, 300)]++
			seen[agree(t, s, text, g.Intn(12))]++
		}
		if !slices.Equal(before, s.List()) {
			t.Fatalf("%+v is %+v now", before, s.List())
		}
		if t.Failed() {
			return
		}
	}
	for _, e := range []api.Errno{api.OK, api.ErrFuel, api.ErrRef, api.ErrSelf, api.ErrNumber, api.ErrUser, api.ErrHost, api.ErrDeep} {
		if seen[e] < 20 {
			t.Errorf("only %d texts of error %d: %v", seen[e], int(e), seen)
		}
	}
}

func TestAllShortTextsAgainstThePlainTelling(t *testing.T) {
	s := holding(t, simple("a", "x.c y"), recursive("b", "$a$(c)"), recursive("c", "$(b)"), recursive("f", "$1$(a)"))
	tokens := []string{"$", "(", ")", "a", "b", ":", "=", ",", "%", "call ", "or ", "f"}
	var all func(text string, more int)
	all = func(text string, more int) {
		agree(t, s, text, 40)
		if more == 0 || t.Failed() {
			return
		}
		for _, k := range tokens {
			all(text+k, more-1)
		}
	}
	all("", 4)
	for _, open := range []string{"$(", "$(or ", "$(call ", "$(if a", "$(foreach a,x y,", "$(subst "} {
		var within func(text string, more int)
		within = func(text string, more int) {
			agree(t, s, open+text+")", 40)
			if more == 0 || t.Failed() {
				return
			}
			for _, k := range append([]string{"$(a)", "$(b)", "$(c)"}, tokens...) {
				within(text+k, more-1)
			}
		}
		within("", 3)
	}
}
