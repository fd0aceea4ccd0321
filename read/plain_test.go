package read

import (
	"fmt"
	"math/rand"
	"reflect"
	"regexp"
	"slices"
	"strings"
	"testing"

	"anvil/api"
	"anvil/lines"
	"anvil/pat"
	"anvil/refs"
	"anvil/rule"
	"anvil/shell"
	"anvil/vars"
	"anvil/vfs"
	"anvil/wild"
)

// A second telling of the chapter, to hold Read against: conditionals are blocks within one another, what foreach and call lend lies over the variables, and an error is a panic with its number.

type lent struct {
	name, value string
	export      int
}

type scribe struct {
	vars   map[string]api.Var
	lent   []lent
	fs     *vfs.FS
	base   api.Base
	fuel   int
	open   int
	busy   []string
	deep   int
	nested int
	files  int
}

// page is a text that is being told.
type page struct {
	l        []string
	next, at int
	deep     int
}

func wrong(e api.Errno) { panic(e) }

func hold(holds bool, e api.Errno) {
	if !holds {
		wrong(e)
	}
}

func plainRead(s *vars.Store, f *vfs.FS, name, text string, fuel int) (b api.Base, line, left int, e api.Errno, after []api.Var) {
	p := &scribe{vars: map[string]api.Var{}, fs: f, fuel: max(fuel, 0), open: -1}
	for _, v := range s.List() {
		p.vars[v.Name] = v
	}
	defer func() {
		for _, v := range p.vars {
			after = append(after, v)
		}
		slices.SortFunc(after, func(a, b api.Var) int { return strings.Compare(a.Name, b.Name) })
	}()
	if len(text) > api.MaxText {
		return api.Base{}, 0, p.fuel, api.ErrLong, nil
	}
	line, e = p.file(name, text)
	switch e {
	case api.OK:
		return p.base, 0, p.fuel, e, nil
	case api.ErrFuel:
		p.fuel = 0
	}
	return api.Base{Events: p.base.Events}, line, p.fuel, e, nil
}

func (p *scribe) file(name, text string) (int, api.Errno) {
	p.files++
	defer func() { p.files-- }()
	p.base.Files = append(p.base.Files, name)
	p.set("MAKEFILE_LIST", p.get("MAKEFILE_LIST").Value+" "+name, api.FlavRecursive, api.OrigFile)
	return p.page(text)
}

// page tells a text, and where it went wrong.
func (p *scribe) page(text string) (line int, e api.Errno) {
	g := &page{l: lines.Split(text)}
	defer func() {
		if why := recover(); why != nil {
			line, e = g.at, why.(api.Errno)
		}
	}()
	p.block(g, true, false)
	return 0, api.OK
}

// block tells lines up to the else or endif that ends the block, or up to the end.
func (p *scribe) block(g *page, reads, inside bool) (end, behind string) {
	for g.next < len(g.l) {
		l, next := lines.Next(g.l, g.next)
		g.at, g.next = l.At, next
		hold(p.fuel > 0, api.ErrFuel)
		p.fuel--
		s := lines.Bare(l.Text)
		if l.Kind == api.LineRecipe && p.open < 0 {
			s = strings.TrimRight(s, " \t\n")
		}
		if l.Kind == api.LineRecipe && p.open >= 0 {
			if reads {
				r := &p.base.Rules[p.open]
				r.Has, r.Recipe = true, append(r.Recipe, l.Text)
			}
			continue
		}
		s = strings.TrimLeft(s, " \t\n")
		word, rest := plainDirective(s)
		switch {
		case s == "":
		case word == "else" || word == "endif":
			hold(inside, api.ErrCond)
			return word, rest
		case conditionals.MatchString(word):
			p.conditional(g, word, rest, reads)
		case reads:
			p.open = -1
			p.line(g, l.Kind, s, word, rest)
		default:
			if again, _ := plainDirective(rest); word == "define" || word == "override" && again == "define" {
				g.defined()
			}
		}
	}
	g.at = len(g.l)
	hold(!inside, api.ErrCond)
	return "", ""
}

var (
	conditionals = regexp.MustCompile(`^ifn?(def|eq)$`)
	directiveAt  = regexp.MustCompile(`(?s)^(ifn?def|ifn?eq|else|endif|-include|s?include|define|endef|override|(?:un)?export|undefine|vpath)(?:[ \t\n]+(.*))?$`)
	noDirective  = regexp.MustCompile(`^([+?!]?=|:)`)
)

// plainDirective tells the directive at the beginning of s, and what stands behind it.
func plainDirective(s string) (word, behind string) {
	m := directiveAt.FindStringSubmatch(s)
	if m == nil || noDirective.MatchString(m[2]) {
		return "", ""
	}
	return m[1], m[2]
}

func bare(s string) bool { return len(strings.Fields(s)) == 0 }

func (p *scribe) conditional(g *page, word, rest string, reads bool) {
	holds := reads && p.test(word, rest)
	hold(g.deep < 60, api.ErrDeep)
	g.deep++
	some, last := holds || !reads, false
	for {
		end, rest := p.block(g, holds, true)
		if end == "endif" {
			hold(bare(rest), api.ErrCond)
			g.deep--
			return
		}
		hold(!last, api.ErrCond)
		if bare(rest) {
			last, holds = true, !some
			continue
		}
		word, rest := plainDirective(rest)
		hold(conditionals.MatchString(word), api.ErrCond)
		holds = !some && p.test(word, rest)
		some = some || holds
	}
}

var (
	inBrackets = regexp.MustCompile(`(?s)^\((.*)\)$`)
	inQuotes   = regexp.MustCompile(`(?s)^(?:"([^"]*)"|'([^']*)')[ \t\n]*(?:"([^"]*)"|'([^']*)')$`)
)

func (p *scribe) test(word, rest string) bool {
	rest = strings.TrimRight(rest, " \t\n")
	if strings.HasSuffix(word, "def") {
		l := strings.Fields(p.told(rest))
		hold(len(l) == 1, api.ErrCond)
		return (p.get(l[0]).Value != "") == (word == "ifdef")
	}
	var a, b string
	if m := inBrackets.FindStringSubmatch(rest); m != nil {
		comma := refs.Scan(m[1], ",")
		hold(comma >= 0, api.ErrCond)
		a, b = strings.Trim(m[1][:comma], " \t\n"), strings.Trim(m[1][comma+1:], " \t\n")
	} else {
		m := inQuotes.FindStringSubmatch(rest)
		hold(m != nil, api.ErrCond)
		a, b = m[1]+m[2], m[3]+m[4]
	}
	a = p.told(a)
	return (a == p.told(b)) == (word == "ifeq")
}

// defined tells the lines up to an endef.
func (g *page) defined() (string, api.Errno) {
	from, open := g.next, 1
	for i := from; i < len(g.l); i++ {
		l := strings.Fields(lines.Bare(g.l[i]))
		switch {
		case len(l) == 0:
		case l[0] == "define":
			open++
		case l[0] == "endef":
			open--
		}
		if open == 0 {
			g.next = i + 1
			if len(l) > 1 {
				return "", api.ErrDefine
			}
			return strings.Join(g.l[from:i], "\n"), api.OK
		}
	}
	g.next = len(g.l)
	return "", api.ErrDefine
}

var signed = regexp.MustCompile(`(?s)^(.*?)(::=|:=|\+=|\?=|!=|=)`)

// plainDefined tells a define's name and how it is set. The first sign counts, once all bytes of references are written over.
func plainDefined(rest string) api.Head {
	every := ""
	for b := range 256 {
		every += string([]byte{byte(b)})
	}
	masked := []byte(strings.Repeat("x", len(rest)))
	for from := 0; ; from++ {
		at := refs.Scan(rest[from:], every)
		if at < 0 {
			break
		}
		from += at
		masked[from] = rest[from]
	}
	m := signed.FindSubmatch(masked)
	if m == nil {
		return api.Head{Left: rest, Set: api.SetRecursive}
	}
	set := map[string]int{"=": api.SetRecursive, ":=": api.SetSimple, "::=": api.SetSimple, "+=": api.SetAppend, "?=": api.SetDefault, "!=": api.SetShell}
	return api.Head{Left: rest[:len(m[1])], Set: set[string(m[2])]}
}

// line tells a line that is no conditional's and no recipe's.
func (p *scribe) line(g *page, kind int, s, word, rest string) {
	h := rule.Take(s)
	switch {
	case word == "override":
		next, behind := plainDirective(rest)
		if next == "define" || next == "undefine" {
			p.directive(g, next, behind, api.OrigOverride)
			return
		}
		h := rule.Take(rest)
		hold(h.Kind == 1, api.ErrSep)
		p.assign(h, api.OrigOverride)
	case word != "":
		p.directive(g, word, rest, api.OrigFile)
	case h.Kind == 1:
		p.assign(h, api.OrigFile)
	case kind == api.LineRecipe:
		wrong(api.ErrTab)
	case h.Kind == 3:
		p.aim(h)
	case h.Kind == 2:
		left := p.told(h.Left)
		p.rule(h, left, p.told(h.Right))
	default:
		s = p.told(s)
		if !bare(s) {
			h := rule.Take(s)
			hold(h.Kind == 2, api.ErrSep)
			p.rule(h, h.Left, h.Right)
		}
	}
}

func (p *scribe) directive(g *page, word, rest string, origin int) {
	switch word {
	case "endef":
		wrong(api.ErrDefine)
	case "define":
		body, e := g.defined()
		hold(e == api.OK, e)
		h := plainDefined(rest)
		h.Right = body
		p.assign(h, origin)
	case "undefine":
		name := strings.Trim(p.told(rest), " \t\n")
		if v := p.get(name); v.Origin <= origin {
			delete(p.vars, name)
		}
	case "export", "unexport":
		p.export(word, rest)
	case "vpath":
		p.vpath(rest)
	default:
		p.include(word, rest)
	}
}

func (p *scribe) export(word, rest string) {
	how := 2
	names := []string{}
	if h := rule.Take(rest); word == "export" && h.Kind == 1 {
		names = append(names, p.assign(h, api.OrigFile))
	} else {
		names = strings.Fields(p.told(rest))
	}
	if word == "export" {
		how = 1
	}
	for _, name := range names {
		if i := p.lentAt(name); i >= 0 {
			p.lent[i].export = how
			continue
		}
		v, there := p.vars[name]
		if !there {
			v = api.Var{Name: name, Flav: api.FlavRecursive, Origin: api.OrigFile}
		}
		v.Export = how
		p.vars[name] = v
	}
}

func (p *scribe) vpath(rest string) {
	if rest == "" {
		p.base.Paths = nil
		return
	}
	at := refs.Scan(rest, " \t\n")
	if at < 0 {
		at = len(rest)
	}
	name := strings.Trim(p.told(rest[:at]), " \t\n")
	dirs := strings.ReplaceAll(p.told(strings.TrimLeft(rest[at:], " \t\n")), ":", " ")
	var l []api.Pair
	for _, x := range p.base.Paths {
		if x.Name != name || !bare(dirs) {
			l = append(l, x)
		}
	}
	if !bare(dirs) {
		l = append(l, api.Pair{Name: name, Value: dirs})
	}
	p.base.Paths = l
}

func (p *scribe) include(word, rest string) {
	for _, name := range wild.Words(p.fs, strings.Fields(p.told(rest))) {
		switch p.fs.Stat(name).Kind {
		case 0:
			if word == "include" {
				name = "!" + name
			}
			p.base.Miss = append(p.base.Miss, name)
		case 2:
			wrong(api.ErrIsDir)
		default:
			b, _ := p.fs.Read(name)
			p.within(p.files, func() (int, api.Errno) { return p.file(name, string(b)) })
		}
	}
}

// within tells a text within others.
func (p *scribe) within(files int, tell func() (int, api.Errno)) {
	hold(p.nested < 60 && files < 60, api.ErrDeep)
	p.nested++
	_, e := tell()
	p.nested--
	hold(e == api.OK, e)
}

func (p *scribe) lentAt(name string) int {
	for i := len(p.lent) - 1; i >= 0; i-- {
		if p.lent[i].name == name {
			return i
		}
	}
	return -1
}

func (p *scribe) get(name string) api.Var {
	if i := p.lentAt(name); i >= 0 {
		return api.Var{Name: name, Value: p.lent[i].value, Flav: api.FlavSimple, Origin: api.OrigAuto, Export: p.lent[i].export}
	}
	return p.vars[name]
}

func (p *scribe) set(name, value string, flav, origin int) {
	old := p.get(name)
	if old.Origin <= origin {
		hold(len(value) <= api.MaxText, api.ErrLong)
		p.vars[name] = api.Var{Name: name, Value: value, Flav: flav, Origin: origin, Export: old.Export}
	}
}

func (p *scribe) name(s string) string {
	name := strings.Trim(p.told(s), " \t\n")
	hold(name != "", api.ErrEmpty)
	return name
}

func (p *scribe) assign(h api.Head, origin int) string {
	name := p.name(h.Left)
	value, flav := h.Right, api.FlavRecursive
	switch h.Set {
	case api.SetSimple:
		value, flav = p.told(value), api.FlavSimple
	case api.SetDefault:
		if p.get(name).Flav != 0 {
			return name
		}
	case api.SetAppend:
		if p.get(name).Flav == api.FlavSimple {
			value = p.told(value)
		}
		if old := p.get(name); old.Flav != 0 {
			flav = old.Flav
			if old.Value != "" {
				value = old.Value + " " + value
			}
		}
	case api.SetShell:
		value = p.told(value)
		before := p.fuel
		defer p.back(before)
		value = p.run(value)
	}
	p.set(name, value, flav, origin)
	return name
}

// back gives the fuel of an expansion back that could not be made.
func (p *scribe) back(fuel int) {
	if why := recover(); why != nil {
		p.fuel = fuel
		panic(why)
	}
}

func (p *scribe) aim(h api.Head) {
	targets := strings.Fields(p.told(h.Left))
	name := regexp.MustCompile(`(?s)^override[ \t\n]+`).ReplaceAllString(h.Name, "")
	x := api.Scoped{Value: h.Right, Set: h.Set, Override: name != h.Name}
	x.Name = p.name(name)
	for _, w := range targets {
		p.base.Aims = append(p.base.Aims, api.Aim{Target: rule.Name(w), Var: x})
	}
}

func (p *scribe) rule(h api.Head, left, right string) {
	r, _, e := rule.Make(left, right, h.Double)
	hold(e == api.OK, e)
	hold(len(p.base.Rules) < 500, api.ErrLong)
	for _, ahead := range p.base.Rules {
		if slices.Contains(ahead.Targets, ".SECONDEXPANSION") {
			r.Prereqs, r.Orders, r.Again = nil, nil, right
			if r.Static != "" {
				r.Again = rule.Behind(right)
			}
		}
	}
	r.Targets, r.Prereqs, r.Orders = wild.Words(p.fs, r.Targets), wild.Words(p.fs, r.Prereqs), wild.Words(p.fs, r.Orders)
	if h.Has {
		r.Has, r.Recipe = true, []string{h.Recipe}
	}
	p.open = len(p.base.Rules)
	p.base.Rules = append(p.base.Rules, r)
	goal := r.Targets[0]
	if p.get(".DEFAULT_GOAL").Value == "" && !r.Pattern && (goal[0] != '.' || strings.Contains(goal, "/")) {
		p.base.Goal = goal
		p.set(".DEFAULT_GOAL", goal, api.FlavSimple, api.OrigFile)
	}
}

// told expands a text of a line.
func (p *scribe) told(s string) string {
	defer p.back(p.fuel)
	return p.expanded(s)
}

func (p *scribe) expanded(s string) string {
	parts, e := refs.Parse(s)
	hold(e == api.OK, e)
	all := ""
	for _, x := range parts {
		if x.Kind == 1 {
			all += x.Text
		} else {
			hold(p.fuel > 0, api.ErrFuel)
			p.fuel--
			hold(p.deep < 60, api.ErrDeep)
			p.deep++
			if x.Kind == 2 {
				all += p.reference(x.Text)
			} else {
				all += p.function(x.Name, x.Args)
			}
			p.deep--
		}
		hold(len(all) <= api.MaxText, api.ErrLong)
	}
	return all
}

func (p *scribe) reference(s string) string {
	s = p.expanded(s)
	name, change, colon := strings.Cut(s, ":")
	from, to, equals := strings.Cut(change, "=")
	if !colon || !equals {
		return p.value(p.get(s), true)
	}
	if !strings.Contains(from, "%") {
		from, to = "%"+from, "%"+to
	}
	l := strings.Fields(p.value(p.get(name), true))
	for i, w := range l {
		l[i] = pat.Subst(from, to, w)
	}
	return strings.Join(l, " ")
}

func (p *scribe) value(v api.Var, counts bool) string {
	if v.Flav != api.FlavRecursive {
		return v.Value
	}
	if counts {
		hold(!slices.Contains(p.busy, v.Name), api.ErrSelf)
		p.busy = append(p.busy, v.Name)
		defer func() { p.busy = p.busy[:len(p.busy)-1] }()
	}
	return p.expanded(v.Value)
}

// lending tells what is told while names have these values.
func (p *scribe) lending(tell func() string, l ...lent) string {
	n := len(p.lent)
	for _, x := range l {
		x.export = p.get(x.name).Export
		p.lent = append(p.lent, x)
	}
	defer func() { p.lent = p.lent[:n] }()
	return tell()
}

func (p *scribe) function(name string, args []string) string {
	least, _ := refs.Bounds(name)
	hold(len(args) >= least, api.ErrRef)
	args[0] = strings.TrimLeft(args[0], " \t\n")
	switch name {
	case "if":
		if p.expanded(strings.Trim(args[0], " \t\n")) != "" {
			return p.expanded(args[1])
		}
		return p.expanded(append(args, "")[2])
	case "foreach":
		name := p.expanded(args[0])
		var l []string
		for _, w := range strings.Fields(p.expanded(args[1])) {
			l = append(l, p.lending(func() string { return p.expanded(args[2]) }, lent{name: name, value: w}))
		}
		return strings.Join(l, " ")
	}
	for i, a := range args {
		args[i] = p.expanded(a)
	}
	if name != "call" {
		return p.worked(name, args)
	}
	if name = strings.Trim(args[0], " \t\n"); slices.Contains(refs.Funcs(), name) {
		hold(len(args) > 1, api.ErrRef)
		args[1] = strings.TrimLeft(args[1], " \t\n")
		return p.worked(name, args[1:])
	}
	l := []lent{{name: "0", value: name}}
	for i := 1; i < max(10, len(args)); i++ {
		l = append(l, lent{name: fmt.Sprint(i), value: append(args, make([]string, 10)...)[i]})
	}
	return p.lending(func() string { return p.value(p.get(name), false) }, l...)
}

func (p *scribe) worked(name string, args []string) string {
	notes := map[string]int{"warning": api.NoteWarning, "info": api.NoteInfo, "error": api.NoteError}
	switch name {
	case "strip":
		return strings.Join(strings.Fields(args[0]), " ")
	case "words":
		return fmt.Sprint(len(strings.Fields(args[0])))
	case "value":
		return p.get(args[0]).Value
	case "origin":
		return [...]string{"undefined", "default", "environment", "file", "environment override", "command line", "override", "automatic"}[p.get(args[0]).Origin]
	case "shell":
		return p.run(args[0])
	case "eval":
		open, deep := p.open, p.deep
		p.open, p.deep = -1, 0
		p.within(0, func() (int, api.Errno) { return p.page(args[0]) })
		p.open, p.deep = open, deep
		return ""
	}
	p.base.Events = append(p.base.Events, api.Event{Kind: api.EvNote, Num: notes[name], Text: args[0]})
	hold(name != "error", api.ErrUser)
	return ""
}

func (p *scribe) run(command string) string {
	names := map[string]struct{}{}
	for name := range p.vars {
		names[name] = struct{}{}
	}
	for _, x := range p.lent {
		names[x.name] = struct{}{}
	}
	var sorted []string
	for name := range names {
		if regexp.MustCompile(`^[A-Za-z_][A-Za-z_0-9]*$`).MatchString(name) {
			sorted = append(sorted, name)
		}
	}
	slices.Sort(sorted)
	// What is expanded for one of them turns none of the others any more.
	var all []api.Var
	for _, name := range sorted {
		all = append(all, p.get(name))
	}
	var env []api.Pair
	for _, v := range all {
		if v.Export == 1 || v.Export == 0 && slices.Contains([]int{api.OrigEnv, api.OrigEnvOver, api.OrigCommand}, v.Origin) {
			env = append(env, api.Pair{Name: v.Name, Value: p.value(v, true)})
		}
	}
	d := shell.Run(p.fs, env, command, p.fuel, nil)
	hold(d.Err == api.OK, d.Err)
	p.fuel = d.Fuel
	p.set(".SHELLSTATUS", fmt.Sprint(d.Status), api.FlavSimple, api.OrigOverride)
	return strings.ReplaceAll(strings.TrimRight(string(d.Out), "\n"), "\n", " ")
}

// grower grows makefiles.
type grower struct {
	*rand.Rand
	wildness int // how many of a thousand lines are out of place
}

func (g grower) of(l ...string) string { return l[g.Intn(len(l))] }

func (g grower) one(in int) bool { return g.Intn(in) == 0 }

func (g grower) name() string {
	return g.of("a", "b", "c", "d", "e", "f", "v", "w", "A", "i", "E", "t.c", "a b", "ifdef", "endef", "0", "1")
}

func (g grower) bytes() string {
	return g.of("x", "y", "1", "x y", "p.c q.c", "z", " ", "", ",", "$$(a)", "$$", "u.o", "(", "%", "d", "a", "b", "i1", "f")
}

// text grows a value.
func (g grower) text(deep int) string {
	var b strings.Builder
	for range 1 + g.Intn(2) + g.Intn(2) {
		b.WriteString(g.piece(deep))
	}
	return b.String()
}

func (g grower) piece(deep int) string {
	n := g.Intn(100)
	if deep == 0 {
		n = g.Intn(60)
	}
	switch {
	case n < 35:
		return g.bytes()
	case n < 55:
		return "$(" + g.name() + ")"
	case n < 60:
		return "$(" + g.name() + ":.c=.o)"
	case n < 66:
		return "$(if " + g.text(deep-1) + "," + g.text(deep-1) + "," + g.text(deep-1) + ")"
	case n < 72:
		return "$(foreach " + g.of("i", "a", "v") + "," + g.of("1 2", "x", "a b", g.text(deep-1)) + "," + g.text(deep-1) + ")"
	case n < 80:
		return "$(call " + g.of("f", "a", "b", "value", "info", "words", g.name()) + "," + g.text(deep-1) + "," + g.bytes() + ")"
	case n < 84:
		return "$(" + g.of("strip", "words", "value", "origin") + " " + g.of(g.name(), g.text(deep-1)) + ")"
	case n < 88:
		return "$(" + g.of("info", "warning") + " " + g.text(deep-1) + ")"
	case n < 91:
		return "$(shell " + g.command() + ")"
	case n < 99:
		return "$(eval " + g.evals(deep-1) + ")"
	case g.one(3):
		return g.of("$(error "+g.text(deep-1)+")", "$(x", "$(if a)")
	}
	return "$(value a)"
}

func (g grower) command() string {
	return g.of("echo $(a) x", "echo a; echo b; exit 3", "echo $$a $$E $$b", "false", "echo x >i3", "rm i2", "cat i1 i2", "while :; do :; done", "nothing", "", "touch u.o", "printf 'a\\n\\n\\n'", "echo $$0$$i$$A")
}

// evals grows what is read within a line: a $ of it is often one more time expanded.
func (g grower) evals(deep int) string {
	switch g.Intn(8) {
	case 0:
		return g.name() + " " + g.of("=", ":=", "+=", "?=") + " " + g.text(deep)
	case 1:
		return g.name() + " := $$(" + g.name() + ")"
	case 2:
		return "$(value " + g.name() + ")"
	case 3:
		return g.of("x", "y", "z") + ": " + g.bytes() + g.of("", " ; echo")
	case 4:
		return g.of("include i1", "-include i3", "export a", "override b = 2", "undefine c", "vpath %.c d", "$$(eval e = 1)", "endif", "ifdef a", "\techo", "$(a)", "include i2")
	}
	return g.of("a", "b", "c", "i", "v", "$(i)", "x") + " " + g.of("=", ":=", "+=") + " " + g.of("1", "$(a)", "$$(a)", "$$(i)", "$(1)", "")
}

func (g grower) assignment(deep int) string {
	return g.name() + g.of(" ", "") + g.of("=", "=", "=", ":=", ":=", "::=", "+=", "+=", "?=", "!=") + g.of(" ", "", "  ") + g.of(g.text(deep), g.text(deep), g.command()) + g.of("", "", " ", " # c")
}

func (g grower) targets() string {
	return g.of("x", "y", "x y", "a.o b.o", "./x", ".x", ".SUFFIXES", ".p/x", "%.o", "%.o %.c", "*.c", "$(a)", "$(b) z", "l(a b)", "%", "d/x")
}

func (g grower) rule() string {
	s := g.targets() + g.of(":", ":", ": ", "::")
	s += g.of("", " y", " a b", " *.c | d", " $(a)", " $$(a) | $(b)", " %.o: %.c", " | y", " $(f)", " $$(@D) ./q", " %: $$*", g.text(1))
	return s + g.of("", "", " ; echo $@", ";", " ; # c")
}

func (g grower) condition() string {
	switch g.Intn(7) {
	case 0, 1:
		return g.of("ifdef", "ifndef") + " " + g.of(g.name(), "a", "b", "$(a)", "none", "v", "E")
	case 2:
		return g.of("ifeq", "ifneq") + " (" + g.text(1) + "," + g.text(1) + ")" + g.of("", " ", " # c")
	case 3:
		return g.of("ifeq", "ifneq") + " " + g.of(`"x" "x"`, `'$(a)' "x"`, `"" ''`, `'a''b'`, `"$(value a)" '$(b)'`)
	case 4:
		return g.of("ifeq", "ifneq") + " " + g.of("(,)", "( $(a) , x )", "($(if a,b),b)", "(a,a)", "($(eval a = 1)$(a),1)", "($(words x y),2)")
	case 5:
		return g.of("ifdef", "ifndef") + " a"
	}
	if !g.one(4) {
		return "ifdef b"
	}
	return g.of("ifdef a b", "ifdef", "ifeq (a)", "ifeq a b", "ifeq", `ifneq "a" "b`, "ifeq (a,b) c", "ifdef $(a) $(b)", "ifeq ($(a),$(b)", "ifdef $(error a)")
}

// block grows a conditional.
func (g grower) block(deep int) []string {
	l := append([]string{g.condition()}, g.lines(g.Intn(4), deep)...)
	for g.one(3) {
		l = append(append(l, "else "+g.condition()), g.lines(g.Intn(3), deep)...)
	}
	if g.one(2) {
		l = append(append(l, g.of("else", "else # c", "  else ")), g.lines(g.Intn(3), deep)...)
	}
	return append(l, g.of("endif", "endif", "  endif # c"))
}

func (g grower) define(deep int) []string {
	l := []string{g.of("", "", "override ") + "define " + g.name() + g.of("", "", "", "", ":b", "::", " :+", "$:", ": b", "$(a:=b)", "?") + g.of("", "", " =", " :=", "::=", "+=", " ?=", " !=", " = x", " # c")}
	l = append(l, g.lines(g.Intn(4), deep)...)
	if g.one(4) {
		l = append(l, "define b", g.of("echo", "endif"), "endef")
	}
	return append(l, g.of("endef", "endef", " endef # c"))
}

func (g grower) include() string {
	return g.of("include", "-include", "sinclude") + " " + g.of("i1", "i2", "i3", "i1 i2", "none", "i*", "$(a)", "none i1", "q*", "", "./i2")
}

// others are lines that are seldom right.
func (g grower) others() string {
	return g.of("else", "endif", "endef", "foo", "\techo", "endif x", "else x", "define", "include d", "= 1", "$(none) = 1", "override x", "%.o x: y", "x: y: z", ": y", "x: = 1", "x:  override $(none) = 1", "$(error a)", "ifdef", "x: v", "a b c", "define z", "$(a", "override", "x $(y", "ifdef a", "else ifdef b", "include loop")
}

func (g grower) line() string {
	switch n := g.Intn(100); {
	case n < 28:
		return g.of("", "", "", "", "override ", "export ", "\t", "  ") + g.assignment(2)
	case n < 42:
		return g.rule()
	case n < 55:
		return "\t" + g.of("echo", "# x", "", " ", "a = 1", "endif", "ifdef a", "else", "define b", "@echo $(a) \\", "include i1", "$(x", "export")
	case n < 60:
		return g.of("", "# c", "  ", " # $(x", "\t ")
	case n < 65:
		return g.include()
	case n < 75:
		return "$(" + g.of("eval "+g.evals(1), "eval "+g.evals(1), "info "+g.text(1), "warning a", "none", "e", "foreach i,1 2,$(eval $(i)"+g.evals(0)+")", "call f,"+g.bytes()) + ")"
	case n < 79:
		return g.of("vpath %.c src:lib", "vpath %.c", "vpath", "vpath $(a) b", "vpath % $(none)", "vpath %.h  a b ", "undefine a", "undefine $(a)", "override undefine b")
	case n < 84:
		return g.of("export a b", "unexport a", "export", "unexport $(b) A", "export $(none)", "export a b", "unexport", "unexport E = 1")
	case n < 91:
		return g.of("x y", "./z", "%.o", "$(a)") + ": " + g.of("", "override ", "export ") + g.name() + g.of(" = ", ":=", "+=", "?=", " != ") + g.text(1)
	case n < 93:
		return g.of("ifdef", "endif", "else", "export", "define", "include", "vpath", "undefine", "override") + " " + g.of("= 1", ": x", ":= 2", "+= 3", "?= 4", "!= echo")
	case n < 95:
		return g.of(".SECONDEXPANSION:", ".DEFAULT_GOAL =", ".DEFAULT_GOAL := y", ".PHONY: x", ".SECONDEXPANSION x: y")
	case n < 97:
		return "$(" + g.name() + ")"
	}
	return g.name() + " = 1 \\\n  2 \\\n"
}

func (g grower) lines(n, deep int) []string {
	var l []string
	for range n {
		switch {
		case g.Intn(1000) < g.wildness:
			l = append(l, g.others())
		case deep > 0 && g.one(6):
			l = append(l, g.block(deep-1)...)
		case deep > 0 && g.one(12):
			l = append(l, g.define(deep-1)...)
		default:
			l = append(l, g.line())
		}
	}
	return l
}

func (g grower) makefile(most int) string {
	return strings.Join(g.lines(1+g.Intn(most), 3), "\n") + g.of("", "\n")
}

// stores has the variables of a make at its beginning.
func (g grower) store() *vars.Store {
	s := vars.New()
	for _, name := range []string{"a", "b", "c", "d", "f", "v", "A", "E", "i", ".DEFAULT_GOAL", "MAKEFILE_LIST"} {
		if !g.one(3) || len(name) > 1 && !g.one(4) {
			continue
		}
		s.Set(name, g.of("x", "x y", "", "$(b)", "p.c", "$(shell echo q)", "$(1)-$(2)", "$(eval $(1) := 5)"), 1+g.Intn(2), 1+g.Intn(7))
		if g.one(2) {
			s.Export(name, g.Intn(3))
		}
	}
	return s
}

func (g grower) files(t *testing.T) *vfs.FS {
	l := []string{"d/", "a.c=1", "b.c=2", "loop=include loop"}
	for _, name := range []string{"i1", "i2", "i3"} {
		if !g.one(4) {
			l = append(l, name+"="+g.makefile(5))
		}
	}
	return tree(t, l...)
}

// agree holds Read against the plain telling, and tells what both answer.
func agree(t *testing.T, s *vars.Store, f *vfs.FS, text string, fuel int) (int, api.Errno) {
	t.Helper()
	one, two := f.Twin(), f.Twin()
	store := s.Twin()
	got, line, left, e := Read(store, one, "m", text, fuel)
	want, wantLine, wantLeft, wantErr, after := plainRead(s, two, "m", text, fuel)
	if shown(got) != shown(want) || line != wantLine || left != wantLeft || e != wantErr {
		t.Fatalf("%s\n(as %q, with %d; %+v; %v):\n%s\nline %d, left %d, error %d; not\n%s\nline %d, left %d, error %d", text, text, fuel, s.List(), contents(f), shown(got), line, left, int(e), shown(want), wantLine, wantLeft, int(wantErr))
	}
	if !slices.Equal(store.List(), after) || !reflect.DeepEqual(one.Tree(), two.Tree()) {
		t.Fatalf("%s\n(as %q, with %d; %+v): the store is\n%+v\nnot\n%+v;\nthe files are\n%+v, not %+v", text, text, fuel, s.List(), store.List(), after, one.Tree(), two.Tree())
	}
	return left, e
}

// shown tells all of a value; no list is told as an empty one.
func shown(x any) string { return strings.ReplaceAll(fmt.Sprintf("%#v", x), "(nil)", "{}") }

func contents(f *vfs.FS) string {
	s := ""
	for _, n := range f.Tree().Nodes {
		s += fmt.Sprintf("%s=%q ", n.Path, n.Data)
	}
	return s
}

func TestAgainstThePlainTelling(t *testing.T) {
	const fuel = 300
	seen := map[api.Errno]int{}
	for seed := range 30000 {
		g := grower{rand.New(rand.NewSource(int64(seed))), []int{0, 0, 10, 60}[seed%4]}
		s, f := g.store(), g.files(t)
		text := g.makefile(3 + seed%20)
		left, e := agree(t, s, f, text, fuel)
		seen[e]++
		if e == api.OK && left < fuel {
			if left, e := agree(t, s, f, text, fuel-left); left != 0 || e != api.OK {
				t.Fatalf("%s\n(%+v): with just enough fuel %d, %d", text, s.List(), left, int(e))
			}
			if _, e := agree(t, s, f, text, fuel-left-1); e != api.ErrFuel {
				t.Fatalf("%s\n(%+v): with too little fuel %d", text, s.List(), int(e))
			}
		}
		_, e = agree(t, s, f, text, g.Intn(40))
		seen[e]++
	}
	for _, e := range []api.Errno{api.OK, api.ErrFuel, api.ErrIsDir, api.ErrRef, api.ErrSelf, api.ErrDeep, api.ErrUser, api.ErrSep, api.ErrCond, api.ErrDefine, api.ErrTab, api.ErrEmpty, api.ErrMixed, api.ErrMany} {
		if seen[e] < 20 {
			t.Errorf("only %d makefiles of error %d: %v", seen[e], int(e), seen)
		}
	}
	t.Log(seen)
}

// All short rows of these lines.
func TestAllShortMakefilesAgainstThePlainTelling(t *testing.T) {
	s, f := vars.New(), tree(t, "i=ifdef a\nx:\nendif", "d/")
	s.Set("a", "1", api.FlavRecursive, api.OrigFile)
	for _, choice := range [][]string{
		{"ifdef a", "ifdef b", "else", "else ifdef a", "else ifdef b", "endif", "v += 1"},
		{"ifdef b", "else", "endif", "define v", "endef", "override define v", "x:"},
		{"x:", "\ty", "", "ifdef a", "endif", "v = 1", "include i", "$(eval z:)"},
		{"define v", "endef", "define w +=", "\tendef", "x", "$(eval $(v))", "endef z"},
		{"define v:w =", "define v:w:=", "override define v:w += a:", "define v:", "$(v:w)", "endef"},
		{"x: y", "%: z ; r", ".SECONDEXPANSION:", ".DEFAULT_GOAL =", "\tr", ".y: z", "a.b: %.b: %.c"},
	} {
		var grow func(text string, more int)
		grow = func(text string, more int) {
			agree(t, s, f, text, 40)
			for _, l := range choice {
				if more > 0 {
					grow(text+l+"\n", more-1)
				}
			}
		}
		grow("", 5)
	}
}

// All short texts of these pieces, behind a define.
func TestAllShortNamesOfDefinesAgainstThePlainTelling(t *testing.T) {
	s, f := vars.New(), tree(t)
	s.Set("a", "1", api.FlavRecursive, api.OrigFile)
	var grow func(name string, more int)
	grow = func(name string, more int) {
		agree(t, s, f, "define "+name+"\nx\nendef", 40)
		for _, piece := range []string{":", "=", "+", "?", "!", " ", "$", "a", "$(a:=b)", "${"} {
			if more > 0 {
				grow(name+piece, more-1)
			}
		}
	}
	grow("", 4)
	grow("a:", 4)
}
