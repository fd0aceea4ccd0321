package expand

import (
	"strings"

	"anvil/api"
	"anvil/pat"
	"anvil/path"
	"anvil/refs"
	"anvil/text"
	"anvil/wild"
)

const blanks = " \t\n"

// origins are the names of where variables come from, by the numbers of package api.
var origins = [...]string{"undefined", "default", "environment", "file", "environment override", "command line", "override", "automatic"}

// flavours are the names of variables' kinds, by the numbers of package api.
var flavours = [...]string{"undefined", "recursive", "simple"}

// arguments are what a function is given: as it stands, or ready, that is expanded.
type arguments struct {
	texts []string
	ready bool
}

// function is what a function does with its arguments, of which it looks at no more than it takes. Most of them are given them ready.
type function func(x *expander, a arguments) (string, error)

func functions() map[string]function {
	return map[string]function{
		"abspath":    (*expander).abspath,
		"addprefix":  (*expander).addprefix,
		"addsuffix":  (*expander).addsuffix,
		"and":        (*expander).and,
		"basename":   (*expander).basename,
		"call":       (*expander).call,
		"dir":        (*expander).dir,
		"error":      (*expander).fail,
		"eval":       (*expander).eval,
		"filter":     (*expander).filter,
		"filter-out": (*expander).filterOut,
		"findstring": (*expander).findstring,
		"firstword":  (*expander).firstword,
		"flavor":     (*expander).flavor,
		"foreach":    (*expander).foreach,
		"if":         (*expander).choose,
		"info":       (*expander).remark,
		"join":       (*expander).join,
		"lastword":   (*expander).lastword,
		"notdir":     (*expander).notdir,
		"or":         (*expander).or,
		"origin":     (*expander).origin,
		"patsubst":   (*expander).patsubst,
		"shell":      (*expander).shell,
		"sort":       (*expander).sort,
		"strip":      (*expander).strip,
		"subst":      (*expander).subst,
		"suffix":     (*expander).suffix,
		"value":      (*expander).value,
		"warning":    (*expander).remark,
		"wildcard":   (*expander).wildcard,
		"word":       (*expander).word,
		"wordlist":   (*expander).wordlist,
		"words":      (*expander).words,
	}
}

// known tells the function of a name, or nil. The table is made when the first one is asked for: most texts ask for none.
func (x *expander) known(name string) function {
	if x.table == nil {
		x.table = functions()
	}
	return x.table[name]
}

// function tells the value of a function.
func (x *expander) function(name string, a arguments) (string, error) {
	if least, _ := refs.Bounds(name); len(a.texts) < least {
		return "", api.ErrRef
	}
	a.texts[0] = strings.TrimLeft(a.texts[0], blanks)
	switch name {
	case "or", "and":
		for i, s := range a.texts {
			a.texts[i] = text.Trim(s)
		}
		fallthrough
	case "if":
		a.texts[0] = text.Trim(a.texts[0])
		fallthrough
	case "foreach":
		// What these need of their arguments they expand themselves.
	default:
		if err := x.makeReady(&a); err != nil {
			return "", err
		}
	}
	return x.known(name)(x, a)
}

func (x *expander) makeReady(a *arguments) error {
	for i := range a.texts {
		s, err := x.argument(*a, i)
		if err != nil {
			return err
		}
		a.texts[i] = s
	}
	a.ready = true
	return nil
}

// argument tells an argument's value: empty, if it is not there.
func (x *expander) argument(a arguments, i int) (string, error) {
	switch {
	case i >= len(a.texts):
		return "", nil
	case a.ready:
		return a.texts[i], nil
	}
	return x.text(a.texts[i])
}

func (x *expander) subst(a arguments) (string, error) {
	s, e := text.Replace(a.texts[2], a.texts[0], a.texts[1])
	if e != api.OK {
		return "", e
	}
	return s, nil
}

func (x *expander) patsubst(a arguments) (string, error) {
	return ofEachWord(a.texts[2], func(w string) string { return pat.Subst(a.texts[0], a.texts[1], w) })
}

func (x *expander) strip(a arguments) (string, error) {
	return joined(text.Split(a.texts[0])...)
}

func (x *expander) findstring(a arguments) (string, error) {
	if text.Find(a.texts[1], a.texts[0]) < 0 {
		return "", nil
	}
	return a.texts[0], nil
}

func (x *expander) sort(a arguments) (string, error) {
	return joined(text.Sort(text.Split(a.texts[0]))...)
}

func (x *expander) filter(a arguments) (string, error) {
	return joined(pat.Filter(text.Split(a.texts[0]), text.Split(a.texts[1]), false)...)
}

func (x *expander) filterOut(a arguments) (string, error) {
	return joined(pat.Filter(text.Split(a.texts[0]), text.Split(a.texts[1]), true)...)
}

// count tells the number that an argument is.
func count(s string) (int, error) {
	n, ok := text.Number(text.Trim(s))
	if !ok {
		return 0, api.ErrNumber
	}
	return n, nil
}

// place tells which word an argument says: words are counted from 1 on.
func place(s string) (int, error) {
	n, err := count(s)
	if err == nil && n == 0 {
		err = api.ErrNumber
	}
	return n, err
}

// between tells the words from the first up to the last, both counted from 1 on, as far as there are such.
func between(words []string, first, last int) []string {
	last = min(last, len(words))
	if first > last {
		return nil
	}
	return words[first-1 : last]
}

func (x *expander) word(a arguments) (string, error) {
	n, err := place(a.texts[0])
	if err != nil {
		return "", err
	}
	return joined(between(text.Split(a.texts[1]), n, n)...)
}

func (x *expander) wordlist(a arguments) (string, error) {
	first, err := place(a.texts[0])
	if err != nil {
		return "", err
	}
	last, err := count(a.texts[1])
	if err != nil {
		return "", err
	}
	return joined(between(text.Split(a.texts[2]), first, last)...)
}

func (x *expander) words(a arguments) (string, error) {
	return text.Decimal(len(text.Split(a.texts[0]))), nil
}

func (x *expander) firstword(a arguments) (string, error) {
	return joined(between(text.Split(a.texts[0]), 1, 1)...)
}

func (x *expander) lastword(a arguments) (string, error) {
	words := text.Split(a.texts[0])
	return joined(words[max(len(words)-1, 0):]...)
}

func (x *expander) dir(a arguments) (string, error) { return ofEachWord(a.texts[0], path.Dir) }

func (x *expander) notdir(a arguments) (string, error) { return ofEachWord(a.texts[0], path.NotDir) }

func (x *expander) basename(a arguments) (string, error) { return ofEachWord(a.texts[0], path.Base) }

func (x *expander) suffix(a arguments) (string, error) {
	var suffixes []string
	for _, w := range text.Split(a.texts[0]) {
		if s := path.Suffix(w); s != "" {
			suffixes = append(suffixes, s)
		}
	}
	return joined(suffixes...)
}

func (x *expander) addsuffix(a arguments) (string, error) {
	return ofEachWord(a.texts[1], func(w string) string { return w + a.texts[0] })
}

func (x *expander) addprefix(a arguments) (string, error) {
	return ofEachWord(a.texts[1], func(w string) string { return a.texts[0] + w })
}

func (x *expander) join(a arguments) (string, error) {
	longer, behind := text.Split(a.texts[0]), text.Split(a.texts[1])
	for i, w := range behind {
		if i < len(longer) {
			longer[i] += w
		} else {
			longer = append(longer, w)
		}
	}
	return joined(longer...)
}

func (x *expander) wildcard(a arguments) (string, error) {
	if x.files == nil {
		return "", api.ErrHost
	}
	var l line
	for _, w := range text.Split(a.texts[0]) {
		if err := l.add(wild.Expand(x.files, w)...); err != nil {
			return "", err
		}
	}
	return l.String(), nil
}

func (x *expander) abspath(a arguments) (string, error) {
	return ofEachWord(a.texts[0], func(w string) string { return "/" + path.Clean(w) })
}

func (x *expander) choose(a arguments) (string, error) {
	condition, err := x.argument(a, 0)
	if err != nil {
		return "", err
	}
	if condition != "" {
		return x.argument(a, 1)
	}
	return x.argument(a, 2)
}

func (x *expander) or(a arguments) (string, error) {
	return x.until(a, func(value string) bool { return value != "" })
}

func (x *expander) and(a arguments) (string, error) {
	return x.until(a, func(value string) bool { return value == "" })
}

// until tells the first argument's value that settles it, or the last one's.
func (x *expander) until(a arguments, settles func(value string) bool) (string, error) {
	var value string
	var err error
	for i := range a.texts {
		if value, err = x.argument(a, i); err != nil || settles(value) {
			break
		}
	}
	return value, err
}

func (x *expander) foreach(a arguments) (string, error) {
	name, err := x.argument(a, 0)
	if err != nil {
		return "", err
	}
	over, err := x.argument(a, 1)
	if err != nil {
		return "", err
	}
	var l line
	for _, w := range text.Split(over) {
		value, err := x.with(api.Pair{Name: name, Value: w}, a)
		if err == nil {
			err = l.add(value)
		}
		if err != nil {
			return "", err
		}
	}
	return l.String(), nil
}

// with tells the text of a foreach while its variable has a word.
func (x *expander) with(word api.Pair, a arguments) (string, error) {
	defer x.hold(word)()
	return x.argument(a, 2)
}

// lastHidden is the last number of which a call hides what it is not given.
const lastHidden = 9

func (x *expander) call(a arguments) (string, error) {
	name := text.Trim(a.texts[0])
	if x.known(name) != nil {
		return x.function(name, arguments{texts: a.texts[1:], ready: true})
	}
	given := append([]string{name}, a.texts[1:]...)
	for len(given) <= lastHidden {
		given = append(given, "")
	}
	values := make([]api.Pair, len(given))
	for i, s := range given {
		values[i] = api.Pair{Name: text.Decimal(i), Value: s}
	}
	defer x.hold(values...)()
	return x.valueOf(x.find(name))
}

func (x *expander) value(a arguments) (string, error) {
	v, _ := x.vars.Get(a.texts[0])
	return v.Value, nil
}

func (x *expander) origin(a arguments) (string, error) {
	v, _ := x.vars.Get(a.texts[0])
	return origins[below(len(origins), v.Origin)], nil
}

func (x *expander) flavor(a arguments) (string, error) {
	v, _ := x.vars.Get(a.texts[0])
	return flavours[below(len(flavours), v.Flav)], nil
}

// below tells n, or 0, if that is no place below the bound: a number without a name is told as a variable that is not there.
func below(bound, n int) int {
	if n < 0 || n >= bound {
		return 0
	}
	return n
}

func (x *expander) fail(arguments) (string, error) { return "", api.ErrUser }

func (x *expander) remark(arguments) (string, error) { return "", nil }

func (x *expander) shell(arguments) (string, error) { return "", api.ErrHost }

func (x *expander) eval(arguments) (string, error) { return "", api.ErrHost }
