package shell

import (
	"fmt"
	"maps"
	"math/rand"
	"regexp"
	"slices"
	"strings"
	"testing"

	"anvil/api"
	"anvil/text"
	"anvil/util"
	"anvil/vfs"
)

// A second telling of the chapter: scripts are grown together with what they mean, as closures over a plain shell, so that no layer that takes a script apart is asked.

// plain is a shell of the second telling.
type plain struct {
	*plainCall
	names  []string // of the variables that are set, in order
	values map[string]string
	shown  map[string]struct{} // the exported ones
	status int
	in     []byte
	sink   *[]byte
	ran    int // the status of the last command in a word
}

type plainCall struct {
	fs   *vfs.FS
	fuel int
	m    *maker
}

type (
	noFuel  struct{}
	leaving struct{ status int }
)

func (p *plain) spend() {
	if p.fuel == 0 {
		panic(noFuel{})
	}
	p.fuel--
}

// twin has variables of its own.
func (p *plain) twin() *plain {
	q := *p
	q.names, q.values, q.shown = slices.Clone(p.names), maps.Clone(p.values), maps.Clone(p.shown)
	return &q
}

func (p *plain) put(name, value string) {
	if _, set := p.values[name]; !set {
		p.names = append(p.names, name)
	}
	p.values[name] = value
}

func (p *plain) drop(name string) {
	p.names = slices.DeleteFunc(p.names, func(s string) bool { return s == name })
	delete(p.values, name)
	delete(p.shown, name)
}

func (p *plain) show(name string) {
	if _, set := p.values[name]; set {
		p.shown[name] = struct{}{}
	}
}

func (p *plain) print(b string) {
	*p.sink = append(*p.sink, b...)
	*p.sink = (*p.sink)[:min(len(*p.sink), api.MaxText)]
}

// caught runs, and tells whether exit has ended it.
func caught(do func()) (left *leaving) {
	defer func() {
		switch why := recover().(type) {
		case nil:
		case leaving:
			left = &why
		default:
			panic(why)
		}
	}()
	do()
	return nil
}

// alone runs all that a shell does.
func (p *plain) alone(n node) {
	if left := caught(func() { n.run(p) }); left != nil {
		p.status = left.status
	}
}

// printed runs a command in a word.
func (p *plain) printed(n node) string {
	q := p.twin()
	var b []byte
	q.sink = &b
	q.alone(n)
	p.ran = q.status
	return strings.TrimRight(string(b), "\n")
}

// node is a command: its text, and what it does.
type node struct {
	text string
	run  func(p *plain)
}

type partKind int

const (
	own    partKind = iota // as it stands
	asked                  // from elsewhere: it may be cut
	quoted                 // itself
)

// part is a part of a word, and what it stands for: false of an error.
type part struct {
	text string
	kind partKind
	tell func(p *plain) (string, bool)
}

type word struct{ parts []part }

func (w word) text() string {
	var b strings.Builder
	for _, x := range w.parts {
		b.WriteString(x.text)
	}
	return b.String()
}

// marked tells a word's bytes, with one of the marks o a q for each.
func (w word) marked(p *plain) (s, marks string, ok bool) {
	for _, x := range w.parts {
		more, ok := x.tell(p)
		if !ok || len(s)+len(more) > api.MaxText {
			return "", "", false
		}
		s += more
		marks += strings.Repeat("oaq"[x.kind:x.kind+1], len(more))
	}
	return s, marks, true
}

// inQuotes tells whether a word has something in quotes.
func (w word) inQuotes() bool {
	return slices.ContainsFunc(w.parts, func(x part) bool { return strings.ContainsAny(x.text[:1], `'"`) })
}

// fieldsOf expands words in a twin, which is the shell where there is no error.
func (p *plain) fieldsOf(words []word) ([]string, bool) {
	q := p.twin()
	var l []string
	for _, w := range words {
		s, marks, ok := w.marked(q)
		if !ok {
			return nil, false
		}
		if s == "" && w.inQuotes() {
			l = append(l, "")
		}
		from := 0
		for i := range len(s) + 1 {
			if i == len(s) || marks[i] == 'a' && strings.ContainsAny(s[i:i+1], " \t\n") {
				if from < i {
					l = append(l, filesNamed(p.fs, s[from:i], marks[from:i])...)
				}
				from = i + 1
			}
		}
	}
	*p = *q
	return l, true
}

// filesNamed tells what a field stands for, by going over the whole tree. (No file of it begins with a dot.)
func filesNamed(f *vfs.FS, field, marks string) (l []string) {
	source, wild := patternText(field, marks, "[^/]*")
	if !wild {
		return []string{field}
	}
	whole := regexp.MustCompile(source)
	for _, n := range f.Tree().Nodes {
		if whole.MatchString(n.Path) {
			l = append(l, n.Path)
		}
	}
	if len(l) == 0 {
		return []string{field}
	}
	return l
}

// patternText writes a pattern as a regular expression, and tells whether it has a *.
func patternText(s, marks, star string) (source string, wild bool) {
	var b strings.Builder
	for i := range len(s) {
		switch c := s[i : i+1]; {
		case marks[i] == 'q' || !strings.Contains("*?[]!", c):
			b.WriteString(regexp.QuoteMeta(c))
		case c == "*":
			b.WriteString(star)
			wild = true
		case c == "?":
			b.WriteString(".")
		case c == "!":
			b.WriteString("^")
		default:
			b.WriteString(c)
		}
	}
	return "(?s)^(?:" + b.String() + ")$", wild
}

// textOf expands a word in a twin, likewise.
func (p *plain) textOf(w word) (string, bool) {
	q := p.twin()
	s, _, ok := w.marked(q)
	if !ok {
		return "", false
	}
	*p = *q
	return s, true
}

// patternOf expands a word as a pattern.
func (p *plain) patternOf(w word) (*regexp.Regexp, bool) {
	q := p.twin()
	s, marks, ok := w.marked(q)
	if !ok {
		return nil, false
	}
	*p = *q
	source, _ := patternText(s, marks, ".*")
	return regexp.MustCompile(source), true
}

type redir struct {
	op   string
	word word
}

// redirected makes redirections, of which the texts are told by view, and runs what is within them.
func (p *plain) redirected(redirs []redir, textOf func(word) (string, bool), do func()) {
	in, out, file := p.in, p.sink, ""
	for _, r := range redirs {
		name, ok := textOf(r.word)
		if !ok {
			p.status = 2
			return
		}
		var e api.Errno
		if r.op == "<" {
			in, e = p.fs.Read(name)
		} else {
			e = p.fs.Write(name, nil, r.op == ">>")
			out, file = new([]byte), name
		}
		if e != api.OK {
			p.status = 1
			return
		}
	}
	oldIn, oldSink := p.in, p.sink
	p.in, p.sink = in, out
	left := caught(do)
	p.in, p.sink = oldIn, oldSink
	if file != "" && len(*out) > 0 && p.fs.Write(file, *out, true) != api.OK {
		p.status = 1
		if left != nil {
			left.status = 1
		}
	}
	if left != nil {
		panic(*left)
	}
}

type assign struct {
	name string
	word word
}

func (p *plain) simple(assigns []assign, words []word, redirs []redir) {
	p.spend()
	p.ran = 0
	fields, ok := p.fieldsOf(words)
	if !ok {
		p.status = 2
		return
	}
	// The view has the assignments; what else is set in it is set in the shell, too.
	view := p.twin()
	var local []string
	textOf := func(w word) (string, bool) {
		s, ok := view.textOf(w)
		for _, name := range view.names {
			if ok && !slices.Contains(local, name) {
				p.put(name, view.values[name])
			}
		}
		return s, ok
	}
	for _, a := range assigns {
		s, ok := textOf(a.word)
		if !ok {
			p.status = 2
			return
		}
		local = append(local, a.name)
		view.put(a.name, s)
	}
	p.redirected(redirs, textOf, func() {
		q := p.twin()
		for _, name := range local {
			q.put(name, view.values[name])
		}
		if len(fields) == 0 {
			p.names, p.values = q.names, q.values
			p.status = view.ran
			return
		}
		for _, name := range local {
			q.show(name)
		}
		p.command(fields, q)
	})
}

func plainName(s string) bool {
	return regexp.MustCompile(`^[A-Za-z_][A-Za-z0-9_]*$`).MatchString(s)
}

func (p *plain) command(words []string, view *plain) {
	switch name := words[0]; {
	case name == "exit" && len(words) == 1:
		panic(leaving{p.status})
	case name == "exit":
		n, ok := text.Number(words[1])
		if !ok {
			n = 2
		}
		panic(leaving{n & 255})
	case name == "export" || name == "unset":
		for _, w := range words[1:] {
			variable, value, sets := strings.Cut(w, "=")
			switch {
			case !plainName(variable):
			case name == "export" && sets:
				p.put(variable, value)
				p.show(variable)
			case name == "export":
				p.show(variable)
			case !sets:
				p.drop(variable)
			}
		}
		p.status = 0
	case name == ":":
		p.status = 0
	case name == "make" && p.m != nil:
		var env []api.Pair
		for _, v := range view.names {
			if _, ok := view.shown[v]; ok {
				env = append(env, api.Pair{Name: v, Value: view.values[v]})
			}
		}
		d := p.m.Make(words[1:], env, p.fuel)
		if d.Err == api.ErrFuel {
			panic(noFuel{})
		}
		p.print(string(d.Out))
		p.status, p.fuel = d.Status, d.Fuel
	default:
		b, status, known := util.Run(p.fs, words, p.in)
		p.print(string(b))
		p.status = status
		if !known {
			p.status = 127
		}
	}
}

// plainRun runs a node as Run does its text.
func plainRun(f *vfs.FS, env []api.Pair, n node, fuel int, m *maker) (d api.Done) {
	p := &plain{plainCall: &plainCall{f, max(fuel, 0), m}, values: map[string]string{}, shown: map[string]struct{}{}, sink: new([]byte)}
	for _, v := range env {
		if _, set := p.values[v.Name]; !set {
			p.put(v.Name, v.Value)
			p.show(v.Name)
		}
	}
	defer func() {
		if why := recover(); why == (noFuel{}) {
			d = api.Done{Err: api.ErrFuel}
		} else if why != nil {
			panic(why)
		}
	}()
	p.alone(n)
	return api.Done{Out: *p.sink, Status: p.status, Fuel: p.fuel}
}

// grower grows scripts.
type grower struct {
	*rand.Rand
	deep   int
	inWord bool // within a command in a word
}

func (g *grower) pick(l ...string) string { return l[g.Intn(len(l))] }

func (g *grower) one(in int) bool { return g.Intn(in) == 0 }

func (g *grower) name() string { return g.pick("a", "b", "c", "E", "N") }

func literal(text, value string, kind partKind) part {
	return part{text, kind, func(*plain) (string, bool) { return value, true }}
}

// variable grows a part that asks for a variable.
func (g *grower) variable(kind partKind) part {
	name := g.name()
	op := g.pick("", "", "", ":-", "-", ":=", "=", ":+", "+")
	if op == "" {
		return part{"${" + name + "}", kind, func(p *plain) (string, bool) { return p.values[name], true }}
	}
	w := g.within()
	return part{"${" + name + op + w.text() + "}", kind, func(p *plain) (string, bool) {
		value, set := p.values[name]
		if op[0] == ':' && value == "" {
			set = false
		}
		if set != strings.HasSuffix(op, "+") {
			if !set {
				value = ""
			}
			return value, true
		}
		s, _, ok := w.marked(p)
		if ok && strings.HasSuffix(op, "=") {
			p.put(name, s)
		}
		return s, ok
	}}
}

// within grows the W of a variable, which may have blanks.
func (g *grower) within() word {
	w := word{parts: []part{literal("x y", "x y", own)}}
	switch g.Intn(4) {
	case 0:
		w = word{}
	case 1:
		w = g.word()
	}
	return w
}

// command grows a part that runs a command.
func (g *grower) command(kind partKind) part {
	before := *g
	g.inWord = true
	g.deep--
	n := g.list(2)
	*g = before
	text := "$(" + n.text + ")"
	if !strings.ContainsAny(n.text, "`\\") && g.one(2) {
		text = "`" + n.text + "`"
	}
	return part{text, kind, func(p *plain) (string, bool) { return p.printed(n), true }}
}

// parts grows some parts, with those of double quotes one by one, each in its own.
func (g *grower) parts() []part {
	kind, around := asked, ""
	if g.one(3) {
		kind, around = quoted, `"`
	}
	var x part
	switch n := g.Intn(40); {
	case n < 12:
		s := g.pick("x", "y", "1", "2", "f", "g", "d/x", "out", "no/x", "a.t", "b.t", "xy")
		return []part{literal(s, s, own)}
	case n < 15:
		s := g.pick("x y", "", "*", "$a", "#", ";", " ")
		return []part{literal("'"+s+"'", s, quoted)}
	case n < 17:
		s := g.pick("x", "$", "*", " ", "'", "\"")
		return []part{literal("\\"+s, s, quoted)}
	case n < 19:
		s := g.pick("x y", "", "*", "'", "#;")
		return []part{literal(`"`+s+`"`, s, quoted)}
	case n < 31:
		x = g.variable(kind)
	case n < 33:
		x = part{g.pick("$?", "${?}"), kind, func(p *plain) (string, bool) { return fmt.Sprint(p.status), true }}
	case n < 38 && g.deep > 0:
		x = g.command(kind)
	case n == 39 && g.one(3):
		x = part{"${1}", kind, func(*plain) (string, bool) { return "", false }}
	default:
		return []part{literal("x", "x", own)}
	}
	x.text = around + x.text + around
	return []part{x}
}

func (g *grower) word() word {
	if g.one(15) {
		return bare(g.pick("*.t", "*", "d/*", "no*"))
	}
	var w word
	for range 1 + g.Intn(2) {
		w.parts = append(w.parts, g.parts()...)
	}
	return w
}

func (g *grower) words(most int) (l []word) {
	for range g.Intn(most + 1) {
		l = append(l, g.word())
	}
	return l
}

// file grows a word that often names a file.
func (g *grower) file() word {
	if g.one(4) {
		return g.word()
	}
	s := g.pick("f", "g", "out", "out", "a.t", "b.t", "d/y", "big", "d", "no/x", "none")
	return word{parts: []part{literal(s, s, own)}}
}

func (g *grower) redirs() (l []redir) {
	for range max(0, g.Intn(5)-2) {
		l = append(l, redir{g.pick("<", ">", ">", ">>"), g.file()})
	}
	return l
}

func redirText(l []redir) string {
	var b strings.Builder
	for _, r := range l {
		b.WriteString(" " + r.op + r.word.text())
	}
	return b.String()
}

// bare is a word that is its own text.
func bare(s string) word { return word{parts: []part{literal(s, s, own)}} }

// called grows a command's words.
func (g *grower) called() []word {
	name := g.pick("echo", "echo", "echo", "cat", "cat", "true", "false", "test", ":", "export", "unset", "make", "touch", "rm", "mkdir", "no", "exit", "")
	if name == "exit" && !g.one(3) {
		name = "echo"
	}
	l := []word{bare(name)}
	switch name {
	case "":
		l = g.words(1)
		if len(l) > 0 && g.one(2) {
			// A variable or a command may be no field.
			l[0] = word{parts: []part{g.variable(asked)}}
		}
	case "cat", "rm", "touch", "mkdir":
		for range g.Intn(3) {
			l = append(l, g.file())
		}
	case "test":
		l = append(l, bare(g.pick("-f", "-n", "-z", "!")), g.file())
	case "export":
		for range g.Intn(3) {
			n := g.name()
			l = append(l, word{parts: append([]part{literal(n+"=", n+"=", own)}, g.parts()...)})
		}
		fallthrough
	case "unset":
		l = append(l, bare(g.pick("a", "b", "1", "c", "-", "E")))
	case "exit":
		if g.one(2) {
			l = append(l, bare(g.pick("0", "3", "300", "x")))
		}
		l = append(l, g.words(1)...)
	default:
		l = append(l, g.words(3)...)
	}
	return l
}

func (g *grower) simple() node {
	var assigns []assign
	for range max(0, g.Intn(5)-2) {
		assigns = append(assigns, assign{g.name(), g.word()})
	}
	words, redirs := g.called(), g.redirs()
	if len(assigns)+len(words)+len(redirs) == 0 {
		words = []word{bare("true")}
	}
	ahead := 0
	if len(redirs) > 0 {
		ahead = g.Intn(len(redirs) + 1)
	}
	text := redirText(redirs[:ahead])
	for _, a := range assigns {
		text += " " + a.name + "=" + a.word.text()
	}
	for _, w := range words {
		text += " " + w.text()
	}
	text += redirText(redirs[ahead:])
	return node{text[1:], func(p *plain) { p.simple(assigns, words, redirs) }}
}

// list grows a list of at most so many commands.
func (g *grower) list(most int) node {
	n := g.andor()
	for range g.Intn(most) {
		first, then := n, g.andor()
		n = node{first.text + g.pick("; ", "\n", ";\n\n") + then.text, func(p *plain) { first.run(p); then.run(p) }}
	}
	return n
}

func (g *grower) andor() node {
	n := g.pipe()
	for range max(0, g.Intn(5)-2) {
		first, op, then := n, g.pick("&&", "||"), g.pipe()
		n = node{first.text + " " + op + " " + then.text, func(p *plain) {
			first.run(p)
			if (p.status == 0) == (op == "&&") {
				then.run(p)
			}
		}}
	}
	return n
}

func (g *grower) pipe() node {
	l := []node{g.single()}
	for range max(0, g.Intn(6)-3) {
		l = append(l, g.single())
	}
	var texts []string
	for _, n := range l {
		texts = append(texts, n.text)
	}
	n := node{strings.Join(texts, g.pick("|", " | ", " |\n")), func(p *plain) {
		if len(l) == 1 {
			l[0].run(p)
			return
		}
		in, status := p.in, 0
		for i, n := range l {
			q := p.twin()
			var b []byte
			q.in, q.sink = in, &b
			q.alone(n)
			in, status = b, q.status
			if i == len(l)-1 {
				p.print(string(b))
			}
		}
		p.status = status
	}}
	if !g.one(8) {
		return n
	}
	return node{"! " + n.text, func(p *plain) {
		n.run(p)
		if p.status == 0 {
			p.status = 1
		} else {
			p.status = 0
		}
	}}
}

func (g *grower) single() node {
	if g.deep == 0 || g.one(2) {
		return g.simple()
	}
	g.deep--
	defer func() { g.deep++ }()
	n := g.compound()
	redirs := g.redirs()
	return node{n.text + redirText(redirs), func(p *plain) {
		p.redirected(redirs, p.textOf, func() { n.run(p) })
	}}
}

func (g *grower) compound() node {
	switch g.Intn(6) {
	case 0:
		n := g.list(3)
		return node{"(" + n.text + ")", func(p *plain) {
			q := p.twin()
			q.alone(n)
			p.status = q.status
		}}
	case 1:
		n := g.list(3)
		return node{"{ " + n.text + "; }", n.run}
	case 2:
		return g.choice("if ")
	case 3:
		return g.while()
	case 4:
		return g.each()
	}
	return g.which()
}

func (g *grower) choice(first string) node {
	test, then := g.list(2), g.list(2)
	head := first + test.text + "; then " + then.text + "; "
	other, end := node{"fi", func(p *plain) { p.status = 0 }}, ""
	switch g.Intn(4) {
	case 0:
		n := g.list(2)
		other, end = node{"else " + n.text + "; fi", n.run}, ""
	case 1:
		other = g.choice("elif ")
	}
	return node{head + other.text + end, func(p *plain) {
		test.run(p)
		if p.status == 0 {
			then.run(p)
		} else {
			other.run(p)
		}
	}}
}

func (g *grower) while() node {
	kind, test, body := g.pick("while", "until"), g.list(2), g.list(2)
	return node{kind + " " + test.text + "; do " + body.text + "; done", func(p *plain) {
		last := 0
		for {
			p.spend()
			test.run(p)
			if (p.status == 0) == (kind == "until") {
				p.status = last
				return
			}
			body.run(p)
			last = p.status
		}
	}}
}

func (g *grower) each() node {
	name, words, body := g.name(), g.words(3), g.list(2)
	text := "for " + name + " in"
	for _, w := range words {
		text += " " + w.text()
	}
	return node{text + "; do " + body.text + "; done", func(p *plain) {
		l, ok := p.fieldsOf(words)
		if !ok {
			p.status = 2
			return
		}
		last := 0
		for _, s := range l {
			p.spend()
			p.put(name, s)
			body.run(p)
			last = p.status
		}
		p.status = last
	}}
}

// pattern grows a word of a case's arm.
func (g *grower) pattern() word {
	if g.one(2) {
		s := g.pick("*", "?", "x*", "[xy]", "[!x]", "*y", "?*", ".*", "*/*", "'*'", "x", "''")
		w := bare(s)
		if strings.HasPrefix(s, "'") {
			w = word{parts: []part{literal(s, s[1:len(s)-1], quoted)}}
		}
		return w
	}
	return g.word()
}

func (g *grower) which() node {
	type arm struct {
		patterns []word
		body     node
	}
	w := g.word()
	text := "case " + w.text() + " in"
	var arms []arm
	for range g.Intn(4) {
		a := arm{[]word{g.pattern()}, node{"", func(p *plain) { p.status = 0 }}}
		// In a word each ) has its (.
		ahead := g.pick(" (", "\n(")
		if !g.inWord && g.one(2) {
			ahead = " "
		}
		text += ahead + a.patterns[0].text()
		if g.one(2) {
			a.patterns = append(a.patterns, g.pattern())
			text += "|" + a.patterns[1].text()
		}
		if !g.one(5) {
			a.body = g.list(2)
		}
		text += ") " + a.body.text + " ;;"
		arms = append(arms, a)
	}
	return node{text + " esac", func(p *plain) {
		s, ok := p.textOf(w)
		if !ok {
			p.status = 2
			return
		}
		for _, a := range arms {
			for _, x := range a.patterns {
				pattern, ok := p.patternOf(x)
				if !ok {
					p.status = 2
					return
				}
				if pattern.MatchString(s) {
					a.body.run(p)
					return
				}
			}
		}
		p.status = 0
	}}
}

// made is a make that prints its words, and costs 2.
func made() *maker {
	return &maker{answer: func(args []string, _ []api.Pair, fuel int) api.Done {
		if fuel < 2 {
			return api.Done{Err: api.ErrFuel}
		}
		return api.Done{Out: []byte(strings.Join(args, " ") + "\n"), Status: len(args) % 3, Fuel: fuel - 2}
	}}
}

// asThePlain holds Run of a script's text against what the script means: what is otherwise, if anything.
func asThePlain(f *vfs.FS, n node, fuel int) (want api.Done, otherwise string) {
	env := pairs("E=v", "N=", "a=x y", "E=second")
	m, other := made(), made()
	f, g := f.Twin(), f.Twin()
	want = plainRun(g, env, n, fuel, other)
	got := Run(f, env, n.text, fuel, m)
	if string(got.Out) != string(want.Out) || got.Status != want.Status || got.Fuel != want.Fuel || got.Err != want.Err {
		return want, fmt.Sprintf("%q with %d: %.300q, %d, %d, %d, not %.300q, %d, %d, %d", n.text, fuel, got.Out, got.Status, got.Fuel, int(got.Err), want.Out, want.Status, want.Fuel, int(want.Err))
	}
	if a, b := told(f), told(g); a != b && got.Err == api.OK {
		return want, fmt.Sprintf("%q with %d: the tree is %.500s, not %.500s", n.text, fuel, a, b)
	}
	if !slices.Equal(m.asked, other.asked) {
		return want, fmt.Sprintf("%q with %d: asked %q, not %q", n.text, fuel, m.asked, other.asked)
	}
	return want, ""
}

// atEachFuel holds a script against the plain with much fuel, and with amounts around what it costs.
func atEachFuel(f *vfs.FS, n node, less func(spent int) int) (api.Done, string) {
	const much = 200
	d, otherwise := asThePlain(f, n, much)
	if spent := much - d.Fuel; d.Err == api.OK && otherwise == "" {
		if _, otherwise = asThePlain(f, n, spent); otherwise == "" && spent > 0 {
			short := api.Done{}
			if short, otherwise = asThePlain(f, n, spent-1); short.Err != api.ErrFuel {
				otherwise += fmt.Sprintf("%q with %d: not out of fuel", n.text, spent-1)
			} else if otherwise == "" {
				_, otherwise = asThePlain(f, n, less(spent))
			}
		}
	}
	return d, otherwise
}

func TestSecondTelling(t *testing.T) {
	r := rand.New(rand.NewSource(12))
	const rounds = 4000
	ended, short, said := 0, 0, 0
	shortest := ""
	for range rounds {
		g := &grower{Rand: r, deep: r.Intn(4)}
		n := g.list(4)
		if len(n.text) > 5000 {
			continue
		}
		big, room := 0, api.MaxRoom
		if r.Intn(20) == 0 {
			big = 41000
		}
		if r.Intn(4) == 0 {
			room = big + 20 + r.Intn(60)
		}
		f := filesIn(t, room, "f=one\n", "g=two\n", "d/", "d/x=", "a.t=1\n", "big="+strings.Repeat("z", big))
		d, otherwise := atEachFuel(f, n, r.Intn)
		switch {
		case otherwise != "" && (shortest == "" || len(otherwise) < len(shortest)):
			shortest = otherwise
		case d.Err != api.OK:
			short++
		case d.Status != 0:
			ended++
		case len(d.Out) > 0:
			said++
		}
	}
	if shortest != "" {
		t.Error(shortest)
	}
	if min(ended, short, said) < rounds/50 {
		t.Errorf("of %d scripts %d ended otherwise than by 0, %d were out of fuel, %d printed something", rounds, ended, short, said)
	}
}

// spoilt turns, takes out or doubles some bytes of a script.
func spoilt(r *rand.Rand, s string) string {
	for range 1 + r.Intn(3) {
		at := r.Intn(len(s) + 1)
		from := r.Intn(at + 1)
		switch r.Intn(3) {
		case 0:
			s = s[:at] + "'\"`\\$(){};&|<>\n #=*?!a"[r.Intn(22):][:1] + s[at:]
		case 1:
			s = s[:from] + s[at:]
		case 2:
			s = s[:at] + s[from:at] + s[at:]
		}
	}
	return s[:min(len(s), 3000)]
}

// holds asks of any text at all what can be asked: a call ends, tells the same again, and with more fuel the same, or it is out of fuel and tells nothing.
func holds(t *testing.T, f *vfs.FS, cmd string) {
	t.Helper()
	run := func(fuel int) (api.Done, string) {
		g, m := f.Twin(), made()
		d := Run(g, environment(), cmd, fuel, m)
		return d, fmt.Sprintf("%q %d %d %s %q", d.Out, d.Status, d.Err, told(g), m.asked)
	}
	d, first := run(50)
	if _, again := run(50); again != first {
		t.Errorf("%q: %s, and then %s", cmd, first, again)
	}
	if d.Err == api.ErrFuel {
		if !isZero(d) {
			t.Errorf("%q: %+v", cmd, d)
		}
		return
	}
	if d.Err != api.OK || d.Fuel < 0 || d.Fuel > 50 || len(d.Out) > api.MaxText || cap(d.Out) != len(d.Out) {
		t.Errorf("%q: %+v", cmd, d)
	}
	for _, fuel := range []int{50 - d.Fuel, 60, 1000} {
		// What make was asked has the fuel in it.
		more, told := run(fuel)
		if more.Fuel-fuel != d.Fuel-50 || !strings.Contains(cmd, "make") && told != first {
			t.Errorf("%q with %d: %s, not %s", cmd, fuel, told, first)
		}
	}
	if less := 49 - d.Fuel; less >= 0 {
		if d, _ := run(less); !isZero(d) {
			t.Errorf("%q with %d: %+v", cmd, less, d)
		}
	}
}

func TestSpoiltScripts(t *testing.T) {
	r := rand.New(rand.NewSource(34))
	f := sample(t)
	for range 5000 {
		g := &grower{Rand: r, deep: r.Intn(3)}
		holds(t, f, spoilt(r, g.list(3).text))
	}
}

func FuzzRun(f *testing.F) {
	r := rand.New(rand.NewSource(56))
	for range 200 {
		g := &grower{Rand: r, deep: r.Intn(3)}
		f.Add(g.list(3).text)
	}
	f.Fuzz(func(t *testing.T, cmd string) { holds(t, sample(t), cmd) })
}
