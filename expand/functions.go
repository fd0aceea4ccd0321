package expand

import (
	"strings"

	"anvil/api"
	"anvil/pat"
	"anvil/path"
	"anvil/refs"
	"anvil/text"
	"anvil/wild"
)

const blanks = " \t\n"

// origins are the names of where variables come from, by the numbers of package api.
var origins = [...]string{"undefined", "default", "environment", "file", "environment override", "command line", "override", "automatic"}

// flavours are the names of variables' kinds, by the numbers of package api.
var flavours = [...]string{"undefined", "recursive", "simple"}

// arguments are what a function is given: as it stands, or ready, that is expanded.
type arguments struct {
	texts []string
	ready bool
}

// function is what a function does with its arguments, of which it looks at no more than it takes. Most of them are given them ready.
type function func(x *Expander, a arguments) (string, error)

func functions() map[string]function {
	return map[string]function{
		"abspath":    (*Expander).abspath,
		"addprefix":  (*Expander).addprefix,
		"addsuffix":  (*Expander).addsuffix,
		"and":        (*Expander).and,
		"basename":   (*Expander).basename,
		"call":       (*Expander).call,
		"dir":        (*Expander).dir,
		"error":      (*Expander).fail,
		"eval":       (*Expander).eval,
		"filter":     (*Expander).filter,
		"filter-out": (*Expander).filterOut,
		"findstring": (*Expander).findstring,
		"firstword":  (*Expander).firstword,
		"flavor":     (*Expander).flavor,
		"foreach":    (*Expander).foreach,
		"if":         (*Expander).choose,
		"info":       (*Expander).info,
		"join":       (*Expander).join,
		"lastword":   (*Expander).lastword,
		"notdir":     (*Expander).notdir,
		"or":         (*Expander).or,
		"origin":     (*Expander).origin,
		"patsubst":   (*Expander).patsubst,
		"shell":      (*Expander).shell,
		"sort":       (*Expander).sort,
		"strip":      (*Expander).strip,
		"subst":      (*Expander).subst,
		"suffix":     (*Expander).suffix,
		"value":      (*Expander).value,
		"warning":    (*Expander).warning,
		"wildcard":   (*Expander).wildcard,
		"word":       (*Expander).word,
		"wordlist":   (*Expander).wordlist,
		"words":      (*Expander).words,
	}
}

// known tells the function of a name, or nil. The table is made when the first one is asked for: most texts ask for none.
func (x *Expander) known(name string) function {
	if x.table == nil {
		x.table = functions()
	}
	return x.table[name]
}

// function tells the value of a function.
func (x *Expander) function(name string, a arguments) (string, error) {
	if least, _ := refs.Bounds(name); len(a.texts) < least {
		return "", api.ErrRef
	}
	a.texts[0] = strings.TrimLeft(a.texts[0], blanks)
	switch name {
	case "or", "and":
		for i, s := range a.texts {
			a.texts[i] = text.Trim(s)
		}
		fallthrough
	case "if":
		a.texts[0] = text.Trim(a.texts[0])
		fallthrough
	case "foreach":
		// What these need of their arguments they expand themselves.
	default:
		if err := x.makeReady(&a); err != nil {
			return "", err
		}
	}
	return x.known(name)(x, a)
}

func (x *Expander) makeReady(a *arguments) error {
	for i := range a.texts {
		s, err := x.argument(*a, i)
		if err != nil {
			return err
		}
		a.texts[i] = s
	}
	a.ready = true
	return nil
}

// argument tells an argument's value: empty, if it is not there.
func (x *Expander) argument(a arguments, i int) (string, error) {
	switch {
	case i >= len(a.texts):
		return "", nil
	case a.ready:
		return a.texts[i], nil
	}
	return x.Text(a.texts[i])
}

func (x *Expander) subst(a arguments) (string, error) {
	s, e := text.Replace(a.texts[2], a.texts[0], a.texts[1])
	if e != api.OK {
		return "", e
	}
	return s, nil
}

func (x *Expander) patsubst(a arguments) (string, error) {
	return ofEachWord(a.texts[2], func(w string) string { return pat.Subst(a.texts[0], a.texts[1], w) })
}

func (x *Expander) strip(a arguments) (string, error) {
	return joined(text.Split(a.texts[0])...)
}

func (x *Expander) findstring(a arguments) (string, error) {
	if text.Find(a.texts[1], a.texts[0]) < 0 {
		return "", nil
	}
	return a.texts[0], nil
}

func (x *Expander) sort(a arguments) (string, error) {
	return joined(text.Sort(text.Split(a.texts[0]))...)
}

func (x *Expander) filter(a arguments) (string, error) {
	return joined(pat.Filter(text.Split(a.texts[0]), text.Split(a.texts[1]), false)...)
}

func (x *Expander) filterOut(a arguments) (string, error) {
	return joined(pat.Filter(text.Split(a.texts[0]), text.Split(a.texts[1]), true)...)
}

// count tells the number that an argument is.
func count(s string) (int, error) {
	n, ok := text.Number(text.Trim(s))
	if !ok {
		return 0, api.ErrNumber
	}
	return n, nil
}

// place tells which word an argument says: words are counted from 1 on.
func place(s string) (int, error) {
	n, err := count(s)
	if err == nil && n == 0 {
		err = api.ErrNumber
	}
	return n, err
}

// between tells the words from the first up to the last, both counted from 1 on, as far as there are such.
func between(words []string, first, last int) []string {
	last = min(last, len(words))
	if first > last {
		return nil
	}
	return words[first-1 : last]
}

func (x *Expander) word(a arguments) (string, error) {
	n, err := place(a.texts[0])
	if err != nil {
		return "", err
	}
	return joined(between(text.Split(a.texts[1]), n, n)...)
}

func (x *Expander) wordlist(a arguments) (string, error) {
	first, err := place(a.texts[0])
	if err != nil {
		return "", err
	}
	last, err := count(a.texts[1])
	if err != nil {
		return "", err
	}
	return joined(between(text.Split(a.texts[2]), first, last)...)
}

func (x *Expander) words(a arguments) (string, error) {
	return text.Decimal(len(text.Split(a.texts[0]))), nil
}

func (x *Expander) firstword(a arguments) (string, error) {
	return joined(between(text.Split(a.texts[0]), 1, 1)...)
}

func (x *Expander) lastword(a arguments) (string, error) {
	words := text.Split(a.texts[0])
	return joined(words[max(len(words)-1, 0):]...)
}

func (x *Expander) dir(a arguments) (string, error) { return ofEachWord(a.texts[0], path.Dir) }

func (x *Expander) notdir(a arguments) (string, error) { return ofEachWord(a.texts[0], path.NotDir) }

func (x *Expander) basename(a arguments) (string, error) { return ofEachWord(a.texts[0], path.Base) }

func (x *Expander) suffix(a arguments) (string, error) {
	var suffixes []string
	for _, w := range text.Split(a.texts[0]) {
		if s := path.Suffix(w); s != "" {
			suffixes = append(suffixes, s)
		}
	}
	return joined(suffixes...)
}

func (x *Expander) addsuffix(a arguments) (string, error) {
	return ofEachWord(a.texts[1], func(w string) string { return w + a.texts[0] })
}

func (x *Expander) addprefix(a arguments) (string, error) {
	return ofEachWord(a.texts[1], func(w string) string { return a.texts[0] + w })
}

func (x *Expander) join(a arguments) (string, error) {
	longer, behind := text.Split(a.texts[0]), text.Split(a.texts[1])
	for i, w := range behind {
		if i < len(longer) {
			longer[i] += w
		} else {
			longer = append(longer, w)
		}
	}
	return joined(longer...)
}

func (x *Expander) wildcard(a arguments) (string, error) {
	if x.files == nil {
		return "", api.ErrHost
	}
	var l line
	for _, w := range text.Split(a.texts[0]) {
		if err := l.add(wild.Expand(x.files, w)...); err != nil {
			return "", err
		}
	}
	return l.String(), nil
}

func (x *Expander) abspath(a arguments) (string, error) {
	return ofEachWord(a.texts[0], func(w string) string { return "/" + path.Clean(w) })
}

func (x *Expander) choose(a arguments) (string, error) {
	condition, err := x.argument(a, 0)
	if err != nil {
		return "", err
	}
	if condition != "" {
		return x.argument(a, 1)
	}
	return x.argument(a, 2)
}

func (x *Expander) or(a arguments) (string, error) {
	return x.until(a, func(value string) bool { return value != "" })
}

func (x *Expander) and(a arguments) (string, error) {
	return x.until(a, func(value string) bool { return value == "" })
}

// until tells the first argument's value that settles it, or the last one's.
func (x *Expander) until(a arguments, settles func(value string) bool) (string, error) {
	var value string
	var err error
	for i := range a.texts {
		if value, err = x.argument(a, i); err != nil || settles(value) {
			break
		}
	}
	return value, err
}

func (x *Expander) foreach(a arguments) (string, error) {
	name, err := x.argument(a, 0)
	if err != nil {
		return "", err
	}
	over, err := x.argument(a, 1)
	if err != nil {
		return "", err
	}
	var l line
	for _, w := range text.Split(over) {
		value, err := x.with(api.Pair{Name: name, Value: w}, a)
		if err == nil {
			err = l.add(value)
		}
		if err != nil {
			return "", err
		}
	}
	return l.String(), nil
}

// with tells the text of a foreach while its variable has a word.
func (x *Expander) with(word api.Pair, a arguments) (string, error) {
	defer x.hold(word)()
	return x.argument(a, 2)
}

// lastHidden is the last number of which a call hides what it is not given.
const lastHidden = 9

func (x *Expander) call(a arguments) (string, error) {
	name := text.Trim(a.texts[0])
	if x.known(name) != nil {
		return x.function(name, arguments{texts: a.texts[1:], ready: true})
	}
	given := append([]string{name}, a.texts[1:]...)
	for len(given) <= lastHidden {
		given = append(given, "")
	}
	values := make([]api.Pair, len(given))
	for i, s := range given {
		values[i] = api.Pair{Name: text.Decimal(i), Value: s}
	}
	defer x.hold(values...)()
	return x.valueOf(x.find(name))
}

func (x *Expander) value(a arguments) (string, error) {
	v, _ := x.vars.Get(a.texts[0])
	return v.Value, nil
}

func (x *Expander) origin(a arguments) (string, error) {
	v, _ := x.vars.Get(a.texts[0])
	return origins[below(len(origins), v.Origin)], nil
}

func (x *Expander) flavor(a arguments) (string, error) {
	v, _ := x.vars.Get(a.texts[0])
	return flavours[below(len(flavours), v.Flav)], nil
}

// below tells n, or 0, if that is no place below the bound: a number without a name is told as a variable that is not there.
func below(bound, n int) int {
	if n < 0 || n >= bound {
		return 0
	}
	return n
}

func (x *Expander) fail(a arguments) (string, error) {
	x.host.Note(api.NoteError, a.texts[0])
	return "", api.ErrUser
}

func (x *Expander) warning(a arguments) (string, error) {
	x.host.Note(api.NoteWarning, a.texts[0])
	return "", nil
}

func (x *Expander) info(a arguments) (string, error) {
	x.host.Note(api.NoteInfo, a.texts[0])
	return "", nil
}

func (x *Expander) shell(a arguments) (string, error) { return x.host.Shell(a.texts[0]) }

// eval has a text read. What is expanded there is within no part of this one: how deep that goes is the host's to say.
func (x *Expander) eval(a arguments) (string, error) {
	defer func(deep int) { x.deep = deep }(x.deep)
	x.deep = 0
	return "", x.host.Eval(a.texts[0])
}
