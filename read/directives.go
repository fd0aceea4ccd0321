package read

import (
	"slices"
	"strings"

	"anvil/api"
	"anvil/lines"
	"anvil/refs"
	"anvil/rule"
	"anvil/text"
	"anvil/wild"
)

// directive is what a directive does with what stands behind its name.
type directive func(r *reader, name, words string)

func directives() map[string]directive {
	return map[string]directive{
		"-include": (*reader).include,
		"define":   (*reader).define,
		"else":     (*reader).otherwise,
		"endef":    (*reader).stray,
		"endif":    (*reader).end,
		"export":   (*reader).export,
		"ifdef":    (*reader).begin,
		"ifeq":     (*reader).begin,
		"ifndef":   (*reader).begin,
		"ifneq":    (*reader).begin,
		"include":  (*reader).include,
		"override": (*reader).override,
		"sinclude": (*reader).include,
		"undefine": (*reader).undefine,
		"unexport": (*reader).export,
		"vpath":    (*reader).vpath,
	}
}

// include reads the files that words name.
func (r *reader) include(name, words string) {
	mark := ""
	switch name {
	case "include":
		mark = "!"
		fallthrough
	case "-include", "sinclude":
		for _, file := range wild.Words(r.files, text.Split(r.expand(words))) {
			r.includeFile(file, mark)
		}
	}
}

// Kinds of what is at a path, but for a file.
const (
	nothing   = 0
	directory = 2
)

// includeFile reads a file; if it is not there, that is kept in mind, with a mark ahead of its name.
func (r *reader) includeFile(name, mark string) {
	switch r.files.Stat(name).Kind {
	case nothing:
		r.base.Miss = append(r.base.Miss, mark+name)
		return
	case directory:
		r.fail(api.ErrIsDir)
	}
	b, e := r.files.Read(name)
	if e != api.OK {
		r.fail(e)
	}
	r.must(r.nested.enter())
	defer r.nested.leave()
	r.must(r.file(name, string(b)))
}

// define sets a variable to the lines up to its endef.
func (r *reader) define(_, words string) { r.defineFor(words, api.OrigFile) }

func (r *reader) defineFor(words string, origin int) {
	body, err := r.body()
	r.must(err)
	h := defined(words)
	h.Right = strings.Join(body, "\n")
	r.assign(h, origin)
}

// defined tells the name that a define's words have, and how it is set. A sign within a reference is the reference's, and a : that begins none is the name's.
func defined(words string) api.Head {
	for from := 0; ; from++ {
		at := refs.Scan(words[from:], ":+?!=")
		if at < 0 {
			return api.Head{Left: words, Set: api.SetRecursive}
		}
		from += at
		if set := sign(words[from:]); set != 0 {
			return api.Head{Left: words[:from], Set: set}
		}
	}
}

// sign tells how the sign that s begins with sets a variable; 0, if it begins with none.
func sign(s string) int {
	for _, c := range [...]struct {
		bytes string
		set   int
	}{{"=", api.SetRecursive}, {":=", api.SetSimple}, {"::=", api.SetSimple}, {"+=", api.SetAppend}, {"?=", api.SetDefault}, {"!=", api.SetShell}} {
		if strings.HasPrefix(s, c.bytes) {
			return c.set
		}
	}
	return 0
}

// body tells the lines of the define that is open, and goes on behind its endef; behind all lines, if it has none.
func (r *reader) body() ([]string, error) {
	from, deep := r.next, 1
	for r.next < len(r.lines) {
		at := r.next
		r.next++
		word, behind := cutWord(strings.TrimLeft(lines.Bare(r.lines[at]), blanks))
		switch word {
		case "define":
			deep++
		case "endef":
			deep--
		}
		switch {
		case deep > 0:
		case behind != "":
			return nil, api.ErrDefine
		default:
			return r.lines[from:at], nil
		}
	}
	return nil, api.ErrDefine
}

// stray is for an endef without its define.
func (r *reader) stray(_, _ string) { r.fail(api.ErrDefine) }

// override does what stands behind it with an origin that no other line of a makefile turns.
func (r *reader) override(_, words string) {
	switch name, behind := r.directive(words); name {
	case "define":
		r.defineFor(behind, api.OrigOverride)
	case "undefine":
		r.undefineFor(behind, api.OrigOverride)
	default:
		h := rule.Take(words)
		if h.Kind != assignmentLine {
			r.fail(api.ErrSep)
		}
		r.assign(h, api.OrigOverride)
	}
}

func (r *reader) undefine(_, words string) { r.undefineFor(words, api.OrigFile) }

func (r *reader) undefineFor(words string, origin int) {
	r.vars.Undefine(text.Trim(r.expand(words)), origin)
}

// How variables are exported.
const (
	exported   = 1
	unexported = 2
)

func (r *reader) export(name, words string) {
	how := unexported
	if name == "export" {
		how = exported
		if h := rule.Take(words); h.Kind == assignmentLine {
			r.vars.Export(r.assign(h, api.OrigFile), how)
			return
		}
	}
	for _, w := range text.Split(r.expand(words)) {
		r.vars.Export(w, how)
	}
}

// vpath puts a pattern's directories behind those that are there; without directories it takes them away.
func (r *reader) vpath(_, words string) {
	if words == "" {
		r.base.Paths = nil
		return
	}
	at := refs.Scan(words, blanks)
	if at < 0 {
		at = len(words)
	}
	pattern := text.Trim(r.expand(words[:at]))
	dirs := strings.ReplaceAll(r.expand(strings.TrimLeft(words[at:], blanks)), ":", " ")
	if strings.Trim(dirs, blanks) != "" {
		r.base.Paths = append(r.base.Paths, api.Pair{Name: pattern, Value: dirs})
		return
	}
	r.base.Paths = slices.DeleteFunc(r.base.Paths, func(p api.Pair) bool { return p.Name == pattern })
}
