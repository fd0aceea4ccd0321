package read

import (
	"fmt"
	"math"
	"reflect"
	"slices"
	"strings"
	"sync"
	"testing"
	"unsafe"

	"anvil/api"
	"anvil/vars"
	"anvil/vfs"
)

const plenty = 100000

// tree makes a file system of these files, each with what stands behind its =; those that end in a slash are directories.
func tree(t *testing.T, l ...string) *vfs.FS {
	t.Helper()
	f, e := vfs.New(api.Tree{Room: 200000})
	if e != api.OK {
		t.Fatal(e)
	}
	for _, s := range l {
		name, data, _ := strings.Cut(s, "=")
		if strings.HasSuffix(name, "/") {
			e = f.Mkdir(name)
		} else {
			e = f.Write(name, []byte(data), false)
		}
		if e != api.OK {
			t.Fatal(s, e)
		}
	}
	return f
}

// usual has the files that most tests ask.
func usual(t *testing.T) *vfs.FS {
	t.Helper()
	return tree(t, "a.c=a", "b.c=b", "d/", "d/x.c=x", "sub=z: q\n\techo z\nv = sub", "open=z: q", "one=n += 1\nx = 1\n", "empty=", "wrong=x = 1\n\nendif\n", "loop=include loop", "turn=$(eval include turn)", "wants=ifdef a\n\n")
}

// told tells a base, all but its files, one thing a line.
func told(b api.Base) string {
	var s strings.Builder
	for _, r := range b.Rules {
		s.WriteString(strings.Join(r.Targets, " ") + ":")
		if r.Double {
			s.WriteString(":")
		}
		if r.Static != "" {
			s.WriteString(r.Static + ":")
		}
		s.WriteString(strings.Join(r.Prereqs, " "))
		if len(r.Orders) > 0 {
			s.WriteString("|" + strings.Join(r.Orders, " "))
		}
		if r.Again != "" {
			s.WriteString("<" + r.Again + ">")
		}
		if r.Pattern {
			s.WriteString(" pattern")
		}
		if r.Terminal {
			s.WriteString(" terminal")
		}
		if r.Has {
			s.WriteString(fmt.Sprintf(" %q", r.Recipe))
		}
		s.WriteString("\n")
	}
	for _, a := range b.Aims {
		s.WriteString(fmt.Sprintf("%s.%s %d %q %v\n", a.Target, a.Var.Name, a.Var.Set, a.Var.Value, a.Var.Override))
	}
	for _, p := range b.Paths {
		s.WriteString(fmt.Sprintf("%s in %q\n", p.Name, p.Value))
	}
	for _, m := range b.Miss {
		s.WriteString("no " + m + "\n")
	}
	for _, e := range b.Events {
		s.WriteString(fmt.Sprintf("event %d %d %q\n", e.Kind, e.Num, e.Text))
	}
	return s.String()
}

// wantBase holds that a makefile is read to that base.
func wantBase(t *testing.T, text, want string) {
	t.Helper()
	b, line, left, e := Read(vars.New(), usual(t), "m", text, plenty)
	if e != api.OK || line != 0 || left > plenty || told(b) != want || len(b.Files) == 0 || b.Files[0] != "m" {
		t.Errorf("%q: %d, %d, error %d:\n%snot\n%s", text, line, left, int(e), told(b), want)
	}
}

// wantVars holds that a makefile leaves these values (each behind the name and a =) among the variables; one without a = is not there.
func wantVars(t *testing.T, text string, want ...string) {
	t.Helper()
	s := vars.New()
	wantVarsIn(t, s, text, want...)
}

func wantVarsIn(t *testing.T, s *vars.Store, text string, want ...string) {
	t.Helper()
	_, line, _, e := Read(s, usual(t), "m", text, plenty)
	if e != api.OK || line != 0 {
		t.Errorf("%q: line %d, error %d", text, line, int(e))
		return
	}
	for _, w := range want {
		name, value, there := strings.Cut(w, "=")
		if v, is := s.Get(name); v.Value != value || is != there {
			t.Errorf("%q: %s is %q (%v), not %q", text, name, v.Value, is, value)
		}
	}
}

// wantWrong holds that a makefile is wrong at that line, and what is told beside the error.
func wantWrong(t *testing.T, text string, line int, e api.Errno, events ...string) {
	t.Helper()
	b, at, left, got := Read(vars.New(), usual(t), "m", text, plenty)
	var notes []string
	for _, x := range b.Events {
		notes = append(notes, x.Text)
	}
	b.Events = nil
	if at != line || got != e || left < 0 || left > plenty || !slices.Equal(notes, events) || !reflect.DeepEqual(b, api.Base{}) {
		t.Errorf("%.200q: line %d, error %d, %q, %+v, not line %d, error %d", text, at, int(got), notes, b, line, int(e))
	}
}

// wantCost holds that a makefile costs just so much: with less it is out of fuel, with more that is left.
func wantCost(t *testing.T, text string, cost int) {
	t.Helper()
	for _, fuel := range []int{0, 1, 2, cost / 2, cost - 2, cost - 1} {
		if fuel < 0 || fuel >= cost {
			continue
		}
		if b, line, left, e := Read(vars.New(), usual(t), "m", text, fuel); e != api.ErrFuel || left != 0 || line == 0 || len(b.Rules)+len(b.Files) != 0 {
			t.Errorf("%q with %d: line %d, %d, error %d; it costs %d", text, fuel, line, left, int(e), cost)
		}
	}
	for _, more := range []int{0, 1, 50, math.MaxInt - cost} {
		if _, _, left, e := Read(vars.New(), usual(t), "m", text, cost+more); e != api.OK || left != more {
			t.Errorf("%q with %d: %d, error %d; it costs %d", text, cost+more, left, int(e), cost)
		}
	}
}

func TestTheChaptersExamples(t *testing.T) {
	b, line, left, e := Read(vars.New(), nil, "m", "a = 1\nifeq ($(a),1)\nx: y ; echo $@\n\techo two\nelse\nz:\nendif\n", 100)
	if e != api.OK || line != 0 || left != 92 || b.Goal != "x" || told(b) != "x:y [\"echo $@\" \"echo two\"]\n" {
		t.Errorf("the chapter's makefile: %d, %d, %d, %q, %s", line, left, int(e), b.Goal, told(b))
	}
	wantWrong(t, "endif", 1, api.ErrCond)
	wantWrong(t, "\techo", 1, api.ErrTab)
	wantBase(t, "$(eval b = 2)", "")
	wantVars(t, "$(eval b = 2)", "b=2")
}

func TestP1801AnEmptyText(t *testing.T) {
	for _, fuel := range []int{0, 1, 100, -1, math.MinInt, math.MaxInt} {
		s := vars.New()
		b, line, left, e := Read(s, nil, "a b", "", fuel)
		if e != api.OK || line != 0 || left != max(fuel, 0) || !reflect.DeepEqual(b, api.Base{Files: []string{"a b"}}) {
			t.Errorf("no text, with %d: %+v, %d, %d, %d", fuel, b, line, left, int(e))
		}
		if l := s.List(); !slices.Equal(l, []api.Var{{Name: "MAKEFILE_LIST", Value: " a b", Flav: api.FlavRecursive, Origin: api.OrigFile}}) {
			t.Errorf("no text: %+v", l)
		}
	}
}

func TestP1801AheadOfAll(t *testing.T) {
	wantBase(t, "$(info $(MAKEFILE_LIST).$(.DEFAULT_GOAL))", "event 6 5 \" m.\"\n")
	for _, old := range []api.Var{{Value: "x", Flav: api.FlavSimple, Origin: api.OrigFile}, {Value: " x y", Flav: api.FlavRecursive, Origin: api.OrigEnv}, {Value: "", Flav: api.FlavSimple, Origin: api.OrigDefault, Export: 2}} {
		s := vars.New()
		s.Set("MAKEFILE_LIST", old.Value, old.Flav, old.Origin)
		s.Export("MAKEFILE_LIST", old.Export)
		Read(s, nil, "m", "x", 0)
		if v, _ := s.Get("MAKEFILE_LIST"); v != (api.Var{Name: "MAKEFILE_LIST", Value: old.Value + " m", Flav: api.FlavRecursive, Origin: api.OrigFile, Export: old.Export}) {
			t.Errorf("%+v is %+v", old, v)
		}
	}
	// One of a greater origin is not turned.
	s := vars.New()
	s.Set("MAKEFILE_LIST", "x", api.FlavSimple, api.OrigCommand)
	if b, _, _, e := Read(s, nil, "m", "", 5); e != api.OK || !slices.Equal(b.Files, []string{"m"}) {
		t.Errorf("a list from the command line: %v, %d", b.Files, int(e))
	}
	if v, _ := s.Get("MAKEFILE_LIST"); v.Value != "x" || v.Origin != api.OrigCommand {
		t.Errorf("a list from the command line is %+v", v)
	}
	// Files stand in the order in which they are read.
	b, _, _, _ := Read(vars.New(), usual(t), "d/m", "include one\n-include sub ./one\nsinclude none empty", plenty)
	if !slices.Equal(b.Files, []string{"d/m", "one", "sub", "./one", "empty"}) {
		t.Errorf("files: %q", b.Files)
	}
	wantVars(t, "include one\nx := $(MAKEFILE_LIST)\n-include sub none", "x= m one", "MAKEFILE_LIST= m one sub")
}

func TestP1801Fuel(t *testing.T) {
	for text, cost := range map[string]int{
		"": 0, "\n": 1, "\n\n\n": 3, "# a\n \n\t\n": 3, "a = 1": 1, "a = 1\n": 1, "a \\\n = \\\n 1": 1, "a = $(b)": 1, "a := $(b)$(c)": 3, "$(a)b := 1": 2, "a ?= $(b)": 1, "a += $(b)": 1, "a :=\na += $(b)": 3,
		"a = 1\n\n# c\nifdef b\nx\nendif": 6, "ifdef $(a)a\nx$(y)\nelse\nendif": 5, "ifeq ($(a),$(b))\nendif": 4, "ifneq \"$(a)\" '$(b)'\n$(c\nendif": 5, "ifndef a\nelse ifdef $(b\nendif": 3, "ifdef a\nelse ifndef $(b)a\nendif": 4,
		"x:\n\ta\n\t$(b)\n\n\t\\\nc": 5, "x: $(a)\n$(b)x:": 4, "$(a)\n$(if a,x:$(a))": 5, "x $(a): v = $(b)": 2, "x: $(a)v = $(b)": 2, "x: y ; $(a)": 1,
		"define a\nx\n$(y)\n\nendef": 1, "define a$(b) :=\n$(c)\nendef": 3, "define a\ndefine b\nendef\nendef\n": 1, "ifdef a\ndefine b\n1\n2\nendef\nendif": 3, "ifdef a\nx\ndefine b\n1\n2\nendif": -1,
		"include none": 1, "include one": 3, "include one one $(a)": 6, "-include empty": 1, "include sub\n": 4, "export $(a)": 2, "undefine $(a)": 2, "vpath $(a) $(b)": 3, "vpath $(a)": 2, "vpath": 1, "override $(a)b = $(c)": 2,
		"a != echo; echo": 3, "$(foreach i,a b,$(shell echo))": 6, "a := $(shell echo; echo)": 4, "a != $(b)": 2, "a := $(shell while false; do :; done)": 4, "$(eval a = 1)": 3, "$(eval )": 2, "$(eval $(a))": 3, "$(eval a := $$(b))": 4, "define a\nb = 1\nc := $(b)\nendef\n$(eval $(value a))": 7, "$(info $(a))": 3,
		"export a = $(b)$(c)\nd != :": 5, "export a := $(b)\nd != :": 4, "$(foreach i,1 2,$(eval a$(i) = 1))": 8,
	} {
		if cost >= 0 {
			wantCost(t, text, cost)
		}
	}
	wantWrong(t, "ifdef a\nx\ndefine b\n1\n2\nendif", 6, api.ErrCond)
	// The line at which there is none left, and what was said by then.
	for fuel, want := range []struct{ line, events int }{{1, 0}, {1, 0}, {2, 1}, {2, 1}, {3, 2}, {5, 2}, {5, 2}} {
		b, line, left, e := Read(vars.New(), usual(t), "m", "$(info a)\n$(info b)\nc = \\\n1\n$(info d)", fuel)
		if e != api.ErrFuel || line != want.line || left != 0 || len(b.Events) != want.events || b.Files != nil {
			t.Errorf("with %d: line %d, %d, %d, %v", fuel, line, left, int(e), b.Events)
		}
	}
}

func TestP1801BesideAnError(t *testing.T) {
	s, f := vars.New(), usual(t)
	b, line, left, e := Read(s, f, "m", "x: y\nv: w = 1\nvpath %.c d\n-include none\n$(info a)$(shell echo x >new)\nn = 1\nendif\nn = 2", plenty)
	if e != api.ErrCond || line != 7 || left != plenty-10 || !reflect.DeepEqual(b, api.Base{Events: []api.Event{{Kind: api.EvNote, Num: api.NoteInfo, Text: "a"}}}) {
		t.Errorf("an error: %+v, %d, %d, %d", b, line, left, int(e))
	}
	// The store and the files are as they are by then.
	if v, _ := s.Get("n"); v.Value != "1" || f.Stat("new").Kind != 1 {
		t.Errorf("ahead of an error n is %q", v.Value)
	}
	// An expansion that ends by an error costs nothing, and says what it has said.
	for text, cost := range map[string]int{
		"a := $(b)\nb := $(c)$(error x)": 3, "$(error x)": 1, "$(a)$(b)$(x": 1, "x: $(a)\n$(a): $(b)$(r$(word 0,x))": 4, "ifeq ($(a),$(b)$(error x))": 2, "$(eval $$(a))$(eval $$(b)$$(error x))": 1, "a != echo; $(a)$(error x)": 1, "$(shell echo)$(error x)": 1,
		"$(foreach i,1 2,$(eval x$(i) := 1)$(if $(x2),$(error x)))": 1, "$(eval a := 1\nendif)": 1, "export b = $(a)$(error x)\na != echo $(c)": 3, "$(eval b := $$(a)$$(c))\n$(eval endif)": 6, "endif": 1, "a = $(b)\n$(a) = 1": 4, "x $(a)": 2, "$(a)\n\tx": 3, "define $(a)\nendef": 2,
	} {
		if _, _, left, e := Read(vars.New(), usual(t), "m", text, plenty); e == api.OK || left != plenty-cost {
			t.Errorf("%q: %d spent, error %d, not %d", text, plenty-left, int(e), cost)
		}
	}
	wantWrong(t, "$(info a)$(warning b)$(error c)$(info d)", 1, api.ErrUser, "a", "b", "c")
}

func TestP1802BlankLines(t *testing.T) {
	wantBase(t, "x:\n\n\ta\n# c\n  \n\t\n\t \n \\\n\n\tb\n\n", "x: [\"a\" \"b\"]\n")
	wantBase(t, "\n\n\t\n#\n \t# x", "")
	wantBase(t, "ifdef a\n\n\t\n#\nendif", "")
}

func TestP1802Recipes(t *testing.T) {
	for text, want := range map[string]string{
		"x: y\n\techo": "x:y [\"echo\"]\n", "x: y ; a;b # c\n\t# d": "x:y [\"a;b \" \"# d\"]\n", "x:\n\ta \\\n\tb\\\n c": "x: [\"a \\\\\\nb\\\\\\n c\"]\n", "x:\n\t\ta  ": "x: [\"\\ta  \"]\n",
		// What stands there is the recipe's, whatever it is.
		"x:\n\tendif\n\tifdef a\n\tv = 1\n\ty: z\n\tinclude d\n\tdefine a\n\t$(x": "x: [\"endif\" \"ifdef a\" \"v = 1\" \"y: z\" \"include d\" \"define a\" \"$(x\"]\n",
		"x:\n\ta\ny:\n\tb": "x: [\"a\"]\ny: [\"b\"]\n", "x:\n\ta\nx:\n\tb": "x: [\"a\"]\nx: [\"b\"]\n",
		// A conditional leaves the rule open; what is passed over is no line of it, and no line that closes it.
		"x:\nifdef no\n\ta\nv = 1\ny:\nelse\n\tb\nendif\n\tc": "x: [\"b\" \"c\"]\n", "x:\nifndef no\n\ta\nelse\n\tb\nendif": "x: [\"a\"]\n", "x:\nifdef no\nendif": "x:\n",
		"x:\nifeq ($(eval y: ; b),)\n\ta\nendif": "x: [\"a\"]\ny: [\"b\"]\n",
		// With no rule open it is a line like others.
		"\tv = 1\n\t$(empty) w=\n": "", "\tifdef no\n\ta\n\telse # c\n\tendif": "", "v = 1\n\tinclude sub": "z:q [\"echo z\"]\n", "\tdefine a\nx\n\tendef\n\t# c\n\t  # c": "", "\texport a\n\tvpath %.c d": "%.c in \"d\"\n", "ifdef no\n\tfoo\n\tx:\n\t$(x\nendif": "",
		"x:\nv = 1\n\tv = 2": "x:\n", "x:\n$(none)\n\tv = 2": "x:\n", "x:\nvpath\n\tv = 2": "x:\n",
		// The last rule of an included file is open behind it.
		"include open\n\ta": "z:q [\"a\"]\n",
	} {
		wantBase(t, text, want)
	}
	wantVars(t, "\ta = 1 # c", "a=1")
	wantVars(t, "\t  override a = 1  \n\tb := $(a) ", "a=1", "b=1")
	wantVars(t, "\ta = 1 \\\n\t2", "a=1 \\\n2")
	for _, s := range []string{"echo", "x: y", "x: v = 1", "$(info a)", "x", " x # c", "$(none)", "%: x", "x:: ; y", "$(eval a = 1)"} {
		wantWrong(t, "\t"+s, 1, api.ErrTab)
		wantWrong(t, "x:\nv = 1\n\t"+s, 3, api.ErrTab)
		wantWrong(t, "include sub\n\n\t"+s, 3, api.ErrTab)
		wantWrong(t, "x: v = 1\n\t"+s, 2, api.ErrTab)
	}
	for _, closes := range []string{"v = 1", "$(none)", "$(eval y:)", "include empty", "-include none", "export", "vpath", "undefine a", "define a\nendef", "x: v = 1", "override v = 1", "unexport a"} {
		wantWrong(t, "x:\n\ta\n"+closes+"\n\tb", 4+strings.Count(closes, "\n"), api.ErrTab)
	}
}

func TestP1802FirstWords(t *testing.T) {
	for _, word := range []string{"ifdef", "ifndef", "ifeq", "ifneq", "else", "endif", "include", "-include", "sinclude", "define", "endef", "override", "export", "unexport", "undefine", "vpath"} {
		for _, gap := range []string{"", " ", "\t ", " \\\n\t"} {
			wantVars(t, word+gap+"= 1", word+"=1")
			wantVars(t, "  "+word+gap+":= 1 2", word+"=1 2")
			wantVars(t, word+gap+"::=1", word+"=1")
			wantVars(t, word+gap+"+= 1", word+"=1")
			wantVars(t, word+gap+"?=1", word+"=1")
			wantVars(t, word+gap+"!= echo 1", word+"=1")
			wantBase(t, word+gap+": a b", word+":a b\n")
			wantBase(t, word+gap+":: a", word+"::a\n")
			wantVars(t, "ifdef no\n"+word+gap+"= 1\n"+word+gap+": 1\nendif", word)
		}
		if word != "endef" {
			wantBase(t, "x:\n\t"+word+" = 1", "x: [\""+word+" = 1\"]\n")
		}
		wantVars(t, "\t"+word+" = 1", word+"=1")
	}
	// Anything else behind it, and it is one.
	wantVars(t, "endif ==", "endif==")
	wantWrong(t, "endif + 1", 1, api.ErrCond)
	wantWrong(t, "else a = 1", 1, api.ErrCond)
	wantWrong(t, "endef ?a= 1", 1, api.ErrDefine)
	wantWrong(t, "ifdef a = 1", 1, api.ErrCond)
	wantVars(t, "export a = 1", "a=1", "export")
	wantBase(t, "include none : x", "no !none\nno !:\nno !x\n")
	// A word that is none of these is none.
	for _, line := range []string{"ifdef: x", "endif:x", "includes: x", "IFDEF: x", "ifeq(a,b): x", "export\v: x"} {
		if _, _, _, e := Read(vars.New(), nil, "m", line, plenty); e != api.OK {
			t.Errorf("%q: error %d", line, int(e))
		}
	}
	wantWrong(t, "ifeq(a,b)", 1, api.ErrSep)
	wantWrong(t, "endif;", 1, api.ErrSep)
}

// branch tells a makefile that says which part of a conditional is read.
func branch(condition string) string {
	return condition + "\n$(info yes)\nelse\n$(info no)\nendif"
}

func wantBranch(t *testing.T, condition string, holds bool) {
	t.Helper()
	want := "event 6 5 \"no\"\n"
	if holds {
		want = "event 6 5 \"yes\"\n"
	}
	given := "one = 1\nnone =\nref = $(none)\nblank := $(none) $(none)\nname = one\ndefine many\none none\nendef\n"
	wantBase(t, given+branch(condition), want)
}

func TestP1803Ifdef(t *testing.T) {
	for name, filled := range map[string]bool{"one": true, "none": false, "ref": true, "blank": true, "not": false, "$(name)": true, "$(name)$(none)": true, "  one  ": true, "$(blank)one$(blank)": true, "not$(none)": false, "MAKEFILE_LIST": true, ".DEFAULT_GOAL": false, "one # x": true, "one:x": false, "\\\n  one": true, "$$": false, "@D": false} {
		wantBranch(t, "ifdef "+name, filled)
		wantBranch(t, "ifndef "+name, !filled)
		wantBranch(t, "  ifdef\t"+name, filled)
	}
	for _, words := range []string{"", " ", " # a", " a b", " $(none)", " $(info)", " $(many)", " a $(b) c", " (a) b"} {
		wantWrong(t, "many = a b\nifdef"+words+"\nendif", 2, api.ErrCond)
		wantWrong(t, "many = a b\nifndef"+words+"\nendif", 2, api.ErrCond)
	}
	wantWrong(t, "\nifdef $(error x)\nendif", 2, api.ErrUser, "x")
	wantWrong(t, "ifdef $(x\nendif", 1, api.ErrRef)
}

func TestP1803Ifeq(t *testing.T) {
	for words, same := range map[string]bool{
		"(,)": true, "(a,a)": true, "(a,b)": false, "(a,b) (a,b)": false, "( a , a )": true, "(\ta\t,a)": true, "(a b,a b)": true, "(a  b,a b)": false, "($(one),1)": true, "(1,$(one))": true, "($(one),$(name))": false, "($(none),)": true, "($(blank),)": false, "( $(blank) ,$(blank))": true, "($($(name)),1)": true,
		"($(if a,b),b)": true, "(${if a,b},b)": true, "(a,b,c)": false, "($(if ,x,a,b),a,b)": true, "(a$(none),a)": true, "(a,(a)": false, "((a),(a))": true, "(),))": true, "(,\\\n)": true, "(a,a) ": true, "(a,a) # c": true, "($$,$$)": true, "(a,a\\\n)": true, "($,,x)": false,
		`"a" "a"`: true, `'a' 'a'`: true, `"a" 'a'`: true, `'a' "a"`: true, `"a""a"`: true, `"a"	'b'`: false, `"" ''`: true, `" a" "a"`: false, `"$(one)" '1'`: true, `"$(none)" ""`: true, `"'" "'"`: true, `'"' '"'`: true, `"a,b" "a,b"`: true, `"a" "a" `: true, `"a" "a"# c`: true, `"(" "("`: true,
	} {
		wantBranch(t, "ifeq "+words, same)
		wantBranch(t, "ifneq "+words, !same)
		wantBranch(t, " ifeq  "+words, same)
	}
	for _, words := range []string{"", " ", " # x", "(a)", "()", "(", ")", "a", "a b", "(a,b", "(a,b)c", "($(if a,b))", "(a $(x,b)", `"a"`, `"a" b`, `"a" "b`, `"a" "b" c`, `"a" "b"c`, `'a" "b'`, `"a' "b"`, `a "b"`, `"a" # "b"`, "a,b", "a)", `"a" (b)`, "$(both)"} {
		wantWrong(t, "both = (a,b)\nifeq "+words+"\nendif", 2, api.ErrCond)
		wantWrong(t, "both = (a,b)\nifneq "+words+"\nendif", 2, api.ErrCond)
	}
	wantWrong(t, "ifeq ($(info 1)$(error 2),$(info 3))\nendif", 1, api.ErrUser, "1", "2")
	wantWrong(t, "ifeq ($(info 1),$(info 2)$(error 3))\nendif", 1, api.ErrUser, "1", "2", "3")
	wantWrong(t, "ifeq (a,$(b)\nendif", 1, api.ErrRef)
	wantWrong(t, "ifneq \"$(a\" \")\"\nendif", 1, api.ErrRef)
}

func TestP1803ElseAndEndif(t *testing.T) {
	// Of a chain of conditions the first one that holds.
	for chain, want := range map[string]string{"yyyy": "0", "nyyy": "1", "nnyy": "2", "nnny": "3", "nnnn": "else", "nyny": "1", "ynnn": "0"} {
		text := ""
		for i, c := range chain {
			ahead := "else "
			if i == 0 {
				ahead = ""
			}
			text += ahead + map[rune]string{'y': "ifndef a", 'n': "ifeq (a,b)"}[c] + fmt.Sprintf("\nv += %d\n", i)
		}
		if want == "else" {
			wantVars(t, text+"endif", "v")
		} else {
			wantVars(t, text+"endif", "v="+want)
		}
		wantVars(t, text+"else\nv += else\nendif", "v="+want)
		// Passed over all is.
		wantVars(t, "ifdef a\n"+text+"else\nv += else\nendif\nendif", "v")
		wantVars(t, "ifndef a\nv := <\nelse\n"+text+"else\nv += else\nendif\nendif", "v=<")
	}
	// What is not to be read is not expanded, nor looked at.
	wantBase(t, "ifndef a\nelse ifdef $(error x)\nelse ifeq\nelse ifdef a b\nelse ifneq (a\nelse\n$(x\nendif", "")
	wantBase(t, "ifdef a\nifdef\nifeq (a\nelse ifndef\nelse # c\nfoo\n= 1\n\tfoo\nendef\n$(error x)\nendif # c\nendif\nendif\n\n", "")
	wantVars(t, "ifdef a\nelse\nv = 1\nendif", "v=1")
	wantVars(t, "ifdef a\n else # c\nv = 1\n\tendif ", "v=1")
	for text, line := range map[string]int{
		"endif": 1, "else": 1, "else ifdef a": 1, "\n\nendif": 3, "ifdef a\nendif\nendif": 3, "ifdef a\nendif\nelse": 3, "ifdef a\nelse\nelse\nendif": 3, "ifndef a\nelse\nelse\nendif": 3, "ifdef a\nelse\nelse ifdef b\nendif": 3, "ifdef a\nelse ifdef b\nelse\nelse\nendif": 4, "ifdef a\nifdef b\nelse\nelse\nendif\nendif": 4,
		"ifdef a\nendif b": 2, "ifndef a\nendif b": 2, "ifdef a\nelse b\nendif": 2, "ifndef a\nelse b\nendif": 2, "ifdef a\nelse endif\nendif": 2, "ifdef a\nelse else\nendif": 2, "ifdef a\nelse include a\nendif": 2, "ifdef a\nelse ifdef = b\nendif": 2, "ifdef a\nifdef b\nendif c\nendif": 3, "ifdef a\nifdef b\nelse c\nendif\nendif": 3, "ifdef a\nifdef b\nelse ifdefs c\nendif\nendif": 3,
		"ifdef a\nelse ifdef\nendif": 2, "ifdef a\nelse ifeq (a)\nendif": 2, "ifdef a\nelse ifdef b c\nendif": 2,
		"ifdef a": 1, "ifdef a\n": 1, "ifndef a\n\n\n": 3, "ifdef a\nelse\n# x": 3, "ifdef a\nifdef b\nendif": 3, "ifdef a\ndefine b\nendif": 3, "ifdef a \\\n\n\n": 3,
	} {
		wantWrong(t, text, line, api.ErrCond)
	}
	wantWrong(t, "ifdef a\nelse ifeq ($(error x),)\nendif", 2, api.ErrUser, "x")
}

func TestP1803ConditionalsWithinOneAnother(t *testing.T) {
	for _, kind := range []string{"ifdef a\n", "ifndef a\n", "ifeq (a,a)\n", "ifndef a\nelse\n", "ifdef a\nelse ifdef b\n"} {
		lines := strings.Count(kind, "\n")
		deep := strings.Repeat(kind, 60)
		wantBase(t, deep+strings.Repeat("endif\n", 60), "")
		wantBase(t, strings.Repeat(deep+strings.Repeat("endif\n", 60), 2), "")
		wantBase(t, deep+"endif\n"+kind+strings.Repeat("endif\n", 60), "")
		wantWrong(t, deep+kind+strings.Repeat("endif\n", 61), 60*lines+1, api.ErrDeep)
		wantWrong(t, deep, 60*lines, api.ErrCond)
	}
	wantWrong(t, "ifdef a\n"+strings.Repeat("ifeq\n", 60), 61, api.ErrDeep)
	// Those of an included file, or of an eval, count by themselves.
	f := tree(t, "deep="+strings.Repeat("ifndef a\n", 60)+"v = 1\n"+strings.Repeat("endif\n", 60))
	s := vars.New()
	text := "define w\nifdef a\nendif\nendef\n" + strings.Repeat("ifndef a\n", 60) + "include deep\n$(eval $(value w))\n" + strings.Repeat("endif\n", 60)
	if _, line, _, e := Read(s, f, "m", text, plenty); e != api.OK {
		t.Errorf("an included file: line %d, error %d", line, int(e))
	}
	if v, _ := s.Get("v"); v.Value != "1" {
		t.Errorf("an included file: v is %q", v.Value)
	}
}

func TestP1803Include(t *testing.T) {
	for text, want := range map[string]string{
		"include sub": "z:q [\"echo z\"]\n", "-include sub": "z:q [\"echo z\"]\n", "sinclude sub # c": "z:q [\"echo z\"]\n", "include": "", "include $(none)": "", "-include # c": "", "include ./sub d/../sub": "z:q [\"echo z\"]\nz:q [\"echo z\"]\n",
		"include none": "no !none\n", "-include none": "no none\n", "sinclude none d/none": "no none\nno d/none\n", "include none sub -x": "z:q [\"echo z\"]\nno !none\nno !-x\n", "include q* d/*.h": "no !q*\nno !d/*.h\n", "-include sub/x a\\b": "no sub/x\nno a\\b\n",
		"n = none\ninclude $(n) $(n)s": "no !none\nno !nones\n", "include sub/x": "no !sub/x\n", "include x\n-include x\ninclude x": "no !x\nno x\nno !x\n", "include s*b o[np]*": "z:q [\"echo z\"]\nz:q\n",
		"ifdef a\ninclude d\nendif": "",
	} {
		wantBase(t, text, want)
	}
	wantVars(t, "include one\ninclude one ./one\n-include one", "n=1 1 1 1", "x=1")
	wantVars(t, "a = 0\ninclude one\na := $(x)", "a=1")
	wantVars(t, "include o*e empt?", "n=1", "x=1", "MAKEFILE_LIST= m one empty")
	for _, name := range []string{"include", "-include", "sinclude"} {
		for _, dir := range []string{"d", "d/", "./d", ".", "/", "..", "../d/..", "one d one", "none d", "d*"} {
			wantWrong(t, "\n"+name+" "+dir, 2, api.ErrIsDir)
		}
		// What is wrong there is told at the line that has it.
		wantWrong(t, "# c\n\n\n"+name+" one \\\n wrong", 4, api.ErrCond)
		wantWrong(t, name+" wants", 1, api.ErrCond)
		wantWrong(t, "\n"+name+" loop", 2, api.ErrDeep)
		wantWrong(t, "\n\n"+name+" turn", 3, api.ErrDeep)
		wantWrong(t, name+" $(error x)", 1, api.ErrUser, "x")
	}
	// Files that are made, or taken away, on the way.
	f := tree(t, "i=x := $(shell rm j; echo 'y = 1' >k)", "j=z = 1")
	s := vars.New()
	b, _, _, e := Read(s, f, "m", "include i j k", plenty)
	if v, _ := s.Get("y"); e != api.OK || v.Value != "1" || !slices.Equal(b.Miss, []string{"!j"}) || !slices.Equal(b.Files, []string{"m", "i", "k"}) {
		t.Errorf("files that come and go: %+v, %d", b, int(e))
	}
	// Without any files none is there.
	if b, _, _, e := Read(vars.New(), nil, "m", "include i\n-include / j", plenty); e != api.ErrIsDir {
		t.Errorf("no files: %+v, %d", b, int(e))
	}
	if b, _, _, e := Read(vars.New(), nil, "m", "include i\n-include j*", plenty); e != api.OK || !slices.Equal(b.Miss, []string{"!i", "j*"}) {
		t.Errorf("no files: %+v, %d", b, int(e))
	}
}

// chained makes files f1 .. fn, each of which includes the next one.
func chained(t *testing.T, n int, includes string) *vfs.FS {
	t.Helper()
	var l []string
	for i := 1; i < n; i++ {
		l = append(l, fmt.Sprintf("f%d=\n%s", i, fmt.Sprintf(includes, i+1)))
	}
	return tree(t, append(l, fmt.Sprintf("f%d=v = %d", n, n))...)
}

func TestP1803FilesWithinOneAnother(t *testing.T) {
	// The makefile itself is one of them.
	s := vars.New()
	if b, line, _, e := Read(s, chained(t, 59, "include f%d"), "m", "include f1", plenty); e != api.OK || len(b.Files) != 60 {
		t.Errorf("60 files: line %d, error %d, %d", line, int(e), len(b.Files))
	}
	if v, _ := s.Get("v"); v.Value != "59" {
		t.Errorf("60 files: v is %q", v.Value)
	}
	for _, text := range []string{"\ninclude f1", "include f59\n-include f1", "v = 1\nsinclude f2 f1"} {
		if _, line, _, e := Read(vars.New(), chained(t, 60, "-include f%d"), "m", text, plenty); line != 2 || e != api.ErrDeep {
			t.Errorf("61 files: line %d, error %d", line, int(e))
		}
	}
}

// evals makes a text that evals itself so often within one another, and says then what it is given.
func evals(n int, within string) string {
	return fmt.Sprintf("define r\nn += x\nifeq ($(words $(n)),%d)\n%s\nelse\n$(eval $(value r))\nendif\nendef\n$(eval $(value r))", n, within)
}

func TestP1807EvalAndIncludeWithinOneAnother(t *testing.T) {
	wantBase(t, evals(60, "$(info a)"), "event 6 5 \"a\"\n")
	wantBase(t, evals(59, "include sub")+"\n$(info $(words $(n)))", "z:q [\"echo z\"]\nevent 6 5 \"59\"\n")
	wantBase(t, evals(59, "$(eval include none)"), "no !none\n")
	wantWrong(t, evals(61, "$(info a)"), 9, api.ErrDeep)
	wantWrong(t, evals(60, "include sub"), 9, api.ErrDeep)
	wantWrong(t, evals(60, "$(eval )"), 9, api.ErrDeep)
	wantWrong(t, "a = $(eval $(value a))\n\n$(a)", 3, api.ErrDeep)
	wantWrong(t, "a = $(call b)\nb = $(eval $$(call b))\n\n$(a)", 4, api.ErrDeep)
	wantWrong(t, "include turn", 1, api.ErrDeep)
	// One behind the other they don't count.
	wantBase(t, strings.Repeat("$(eval v += 1)$(eval include one)\n", 100)+"$(info $(words $(v)))", "event 6 5 \"100\"\n")
	// The parts of an eval's text are within none of the line's.
	deep := func(s string) string { return strings.Repeat("$(if x,", 59) + s + strings.Repeat(")", 59) }
	wantVars(t, "a = "+deep("y")+"\n"+deep("$(eval b := $$(a))"), "b=y")
	// What is being expanded is so within, too.
	wantWrong(t, "a = $(eval b := $$(a))\n$(a)", 2, api.ErrSelf)
	wantVars(t, "a = $(eval a := x)$(a)\nb := $(a)", "a=x", "b=x")
}

func TestP1803Define(t *testing.T) {
	for text, want := range map[string]string{
		"define a\nx\ny # z\nendef": "a=x\ny # z", "define a\nendef": "a=", "define a\n\nendef": "a=", "define a\n\n\nendef": "a=\n", "define a # c\n  x \\\n\ty\n\tz  \nendef # c": "a=  x \\\n\ty\n\tz  ", "  define\t a b \n1\n  endef  ": "a b=1", "define a$(none)c\n1\nendef": "ac=1", "define $$\n1\nendef": "$=1",
		"define a =\n$(b)\nendef": "a=$(b)", "b = 1\ndefine a :=\n$(b)x\ny\nendef": "a=1x\ny", "b = 1\ndefine a ::=\n$(b)\nendef": "a=1", "a = 1\ndefine a ?=\n2\nendef": "a=1", "define a?=\n2\nendef": "a=2", "a = 1\ndefine a +=\n2\n3\nendef": "a=1 2\n3", "b = 1\na := x\ndefine a +=\n$(b)\nendef": "a=x 1", "define a+=\n$(b)\nendef": "a=$(b)", "define a !=\necho 1\necho 2\nendef": "a=1 2", "define a = b\n1\nendef": "a=1",
		"define a\ndefine b\nendef\nendef": "a=define b\nendef", "define a\n  define b = 1\n\tdefine\n endef x\n\tendef\nendef": "a=  define b = 1\n\tdefine\n endef x\n\tendef", "define a\noverride define b\nendef": "a=override define b", "define a\nendefs\ndefines x\nendef": "a=endefs\ndefines x", "define a\n# endef\nx: endef\nendef": "a=# endef\nx: endef", "define a\nifdef b\nelse\nendef\ndefine b\nendif\nendef": "b=endif",
		"define a:b\n1\nendef": "a:b=1", "define ifdef\n1\nendef": "ifdef=1", "define define\n1\nendef\nb = 2": "b=2", "ifdef b\ndefine a\n1\nendef\nendif\nc = 1": "a", "ifdef b\nelse\ndefine a\n1\nelse\nendef\nendif": "a=1\nelse", "ifdef b\noverride define a\nendif\nendef\nendif": "a", "ifdef b\ndefine a\ndefine c\nendef\nendif\nendef x\nendif": "a", "x:\n\tdefine a\n\techo": "a",
	} {
		wantVars(t, text, want)
	}
	wantVars(t, "define a\nb = 5\nc := $(b)\nendef\n$(eval $(a))", "b=5", "c=")
	wantVars(t, "define a\nb = 5\nc := $(b)\nendef\n$(eval $(value a))", "b=5", "c=5")
	for text, line := range map[string]int{"define a": 1, "\ndefine a\n\n\n": 2, "define a\ndefine b\nendef": 1, "endef": 1, "\n\nendef # c": 3, "define a\nendef\nendef": 3, "define a\n\nendef x": 1, "define a\nendef = 1": 1, "define": 1, "define $(none)\nx": 1, "endef x": 1, "define a\n# endef": 1, "define $(error x)\n": 1, "define a\nendef \\\n": 1} {
		wantWrong(t, text, line, api.ErrDefine)
	}
	for _, text := range []string{"define\nendef", "define \nx\nendef", "define $(none)\nendef", "define $(none) :=\n1\nendef", "override define\nendef", "define # a\nendef"} {
		wantWrong(t, "\n"+text+"\n", 2, api.ErrEmpty)
	}
	wantWrong(t, "define $(error x)\n\n\nendef", 1, api.ErrUser, "x")
	wantWrong(t, "define a :=\n\n$(error x)\nendef", 1, api.ErrUser, "x")
	for _, sign := range []string{"", " =", " :=", " ?=", " !="} {
		v := read(t, "define a"+sign+"\necho\nendef", "a")
		want := api.FlavRecursive
		if sign == " :=" {
			want = api.FlavSimple
		}
		if v.Flav != want || v.Origin != api.OrigFile {
			t.Errorf("define a%s: %+v", sign, v)
		}
	}
}

func TestP1803DefineOfNamesWithColons(t *testing.T) {
	for _, name := range []string{"a:b", "a:", "a::", "a:b:c", "a::b", "a:b c", "a: b", "a :b", "a :", "a:+b", "a?:", "a!b", "a+b", "a ? b", "%.o:%.c", "a:+"} {
		for sign, v := range map[string]api.Var{
			"":       {Value: "$(y)", Flav: api.FlavRecursive},
			" =":     {Value: "$(y)", Flav: api.FlavRecursive},
			" := ":   {Value: "z", Flav: api.FlavSimple},
			"  ::=":  {Value: "z", Flav: api.FlavSimple},
			" += ":   {Value: "$(y)", Flav: api.FlavRecursive},
			" ?=":    {Value: "$(y)", Flav: api.FlavRecursive},
			" !=\t":  {Value: "", Flav: api.FlavRecursive},
			" = b:c": {Value: "$(y)", Flav: api.FlavRecursive},
			" := =":  {Value: "z", Flav: api.FlavSimple},
		} {
			v.Name, v.Origin = name, api.OrigFile
			wantDefined(t, "define "+name+sign, v)
			v.Origin = api.OrigOverride
			wantDefined(t, "override define "+name+sign+" # c", v)
		}
	}
}

// What stands ahead of the first sign is the name: blanks beside it are not.
func TestP1803DefineSigns(t *testing.T) {
	for line, v := range map[string]api.Var{
		"define a:b=":         {Name: "a:b", Value: "$(y)", Flav: api.FlavRecursive},
		"define a:b:=":        {Name: "a:b", Value: "z", Flav: api.FlavSimple},
		"define a:b::=":       {Name: "a:b", Value: "z", Flav: api.FlavSimple},
		"define a:::=":        {Name: "a:", Value: "z", Flav: api.FlavSimple},
		"define a:+=":         {Name: "a:", Value: "$(y)", Flav: api.FlavRecursive},
		"define a+:=":         {Name: "a+", Value: "z", Flav: api.FlavSimple},
		"define a + =":        {Name: "a +", Value: "$(y)", Flav: api.FlavRecursive},
		"define a : =":        {Name: "a :", Value: "$(y)", Flav: api.FlavRecursive},
		"define $(x:w=a:)b":   {Name: "a:b", Value: "$(y)", Flav: api.FlavRecursive},
		"define $(x:w=a:)b:=": {Name: "a:b", Value: "z", Flav: api.FlavSimple},
		"define ${x:w=:=}=":   {Name: ":=", Value: "$(y)", Flav: api.FlavRecursive},
		"define $x:=":         {Name: "w", Value: "z", Flav: api.FlavSimple},
		"define a$:=":         {Name: "a", Value: "$(y)", Flav: api.FlavRecursive},
		"define a$=:b":        {Name: "a:b", Value: "$(y)", Flav: api.FlavRecursive},
		"define a$$:=":        {Name: "a$", Value: "z", Flav: api.FlavSimple},
		"define a:b = c := d": {Name: "a:b", Value: "$(y)", Flav: api.FlavRecursive},
	} {
		v.Origin = api.OrigFile
		wantDefined(t, line, v)
	}
	wantVars(t, "a:b = 1\n", "a:b", "a")
	wantVars(t, "$(x)a:b := 1\ndefine a:b\n1\nendef\ndefine a:b +=\n2\nendef\ndefine a:b ?=\n3\nendef", "a:b=1 2")
	wantWrong(t, "\ndefine $(x): = \n1", 2, api.ErrDefine)
	wantWrong(t, "define $x ::=\n1\nendef", 1, api.ErrEmpty)
	wantWrong(t, "define $(x:=\n1\nendef", 1, api.ErrRef)
	wantWrong(t, "define a:$(x =\n1\nendef", 1, api.ErrRef)
}

// wantDefined wants a define of this first line, and no other, to set v and nothing beside it.
func wantDefined(t *testing.T, line string, v api.Var) {
	t.Helper()
	s := vars.New()
	s.Set("x", "w", api.FlavSimple, api.OrigFile)
	s.Set("y", "z", api.FlavSimple, api.OrigFile)
	s.Set(".SHELLSTATUS", "", api.FlavSimple, api.OrigOverride)
	before := len(s.List())
	if _, at, _, e := Read(s, usual(t), "m", line+"\n$(y)\nendef", plenty); e != api.OK {
		t.Errorf("%q: line %d, error %d", line, at, int(e))
	}
	got, _ := s.Get(v.Name)
	if more := len(s.List()) - before; got != v || more != 2 {
		t.Errorf("%q: %+v, want %+v; %d more variables, want the list of makefiles alone", line, got, v, more-1)
	}
}

// read tells a variable behind a makefile.
func read(t *testing.T, text, name string) api.Var {
	t.Helper()
	s := vars.New()
	if _, line, _, e := Read(s, usual(t), "m", text, plenty); e != api.OK {
		t.Errorf("%q: line %d, error %d", text, line, int(e))
	}
	v, _ := s.Get(name)
	return v
}

func TestP1803Override(t *testing.T) {
	for text, want := range map[string]api.Var{
		"override a = 1\na = 2":                               {Value: "1", Flav: api.FlavRecursive, Origin: api.OrigOverride},
		"override a := 1\na := 2\noverride a += $(none)3":     {Value: "1 3", Flav: api.FlavSimple, Origin: api.OrigOverride},
		"a = 1\noverride a += 2\na += 3\nundefine a":          {Value: "1 2", Flav: api.FlavRecursive, Origin: api.OrigOverride},
		"override a ?= 1\noverride a ?= 2":                    {Value: "1", Flav: api.FlavRecursive, Origin: api.OrigOverride},
		"override a != echo 1":                                {Value: "1", Flav: api.FlavRecursive, Origin: api.OrigOverride},
		"override define a\n1\nendef\na = 2":                  {Value: "1", Flav: api.FlavRecursive, Origin: api.OrigOverride},
		"override  define a :=\n1\nendef\ndefine a\n2\nendef": {Value: "1", Flav: api.FlavSimple, Origin: api.OrigOverride},
		"override a = 1\noverride undefine a\na = 2":          {Value: "2", Flav: api.FlavRecursive, Origin: api.OrigFile},
		"override a = 1\noverride  undefine $(none)a\n":       {},
		"\toverride a = 1\n":                                  {Value: "1", Flav: api.FlavRecursive, Origin: api.OrigOverride},
	} {
		if want.Value != "" {
			want.Name = "a"
		}
		if v := read(t, text, "a"); v != want {
			t.Errorf("%q: %+v", text, v)
		}
	}
	wantVars(t, "override define = 1\noverride undefine := 2\noverride override = 3\noverride include a = 4", "define=1", "undefine=2", "override=3", "include a=4")
	for _, text := range []string{"override", "override ", "override x", "override a b", "override x: y", "override x: v = 1", "override ifdef a", "override include one", "override $(none)", "override $(error a)", "override endef", "override # = 1"} {
		wantWrong(t, "\n"+text, 2, api.ErrSep)
	}
	wantWrong(t, "override define a", 1, api.ErrDefine)
	wantWrong(t, "override $(none) = 1", 1, api.ErrEmpty)
	s := vars.New()
	s.Set("a", "0", api.FlavSimple, api.OrigCommand)
	wantVarsIn(t, s, "a = 1\ndefine a\n2\nendef\nundefine a", "a=0")
	wantVarsIn(t, s, "override a = 1", "a=1")
	s.Set("a", "9", api.FlavSimple, api.OrigAuto)
	wantVarsIn(t, s, "override a = 1\noverride undefine a", "a=9")
}

func TestP1803Export(t *testing.T) {
	for text, want := range map[string][3]int{
		"export a b": {1, 1, 0}, "export a\nunexport a b": {2, 2, 0}, "unexport b\nexport $(w)": {1, 1, 0}, "export a = 1": {1, 0, 0}, "export a := 1 b = 2": {1, 0, 0}, "export a += 1\na = 2": {1, 0, 0}, "export $(none)a ?= 1": {1, 0, 0}, "export c != echo": {0, 0, 1}, "export": {0, 0, 0}, "unexport": {0, 0, 0}, "export $(none)\nunexport # a": {0, 0, 0}, "export a # b": {1, 0, 0}, "unexport a = 1": {2, 0, 0}, "export c c\nexport c": {0, 0, 1}, "export a\nexport\nunexport b": {1, 2, 0}, "\texport a": {1, 0, 0}, "export a: b = 1": {0, 1, 0}, "ifdef none\nexport a\nendif": {0, 0, 0}, "export c\nundefine c\nc = 1": {0, 0, 0},
	} {
		s := vars.New()
		for _, name := range []string{"a", "b"} {
			s.Set(name, "x", api.FlavSimple, api.OrigEnv)
		}
		s.Set("w", "a  b", api.FlavSimple, api.OrigFile)
		if _, line, _, e := Read(s, nil, "m", text, plenty); e != api.OK {
			t.Errorf("%q: line %d, error %d", text, line, int(e))
		}
		var got [3]int
		for i, name := range []string{"a", "b", "c"} {
			v, _ := s.Get(name)
			got[i] = v.Export
		}
		if got != want {
			t.Errorf("%q: %v, not %v", text, got, want)
		}
	}
	// One that is not there comes to be.
	if v := read(t, "export a", "a"); v != (api.Var{Name: "a", Flav: api.FlavRecursive, Origin: api.OrigFile, Export: 1}) {
		t.Errorf("export a: %+v", v)
	}
	// The assignment is one like others, but for the export.
	if v := read(t, "b = 1\nexport a := $(b) # c", "a"); v != (api.Var{Name: "a", Value: "1 ", Flav: api.FlavSimple, Origin: api.OrigFile, Export: 1}) {
		t.Errorf("export a := $(b): %+v", v)
	}
	if v := read(t, "override a = 1\nexport a = 2", "a"); v.Value != "1" || v.Export != 1 || v.Origin != api.OrigOverride {
		t.Errorf("export of one that can't be set: %+v", v)
	}
	wantVars(t, "export define = 1\nexport override a = 1", "define=1", "override a=1")
	wantWrong(t, "export $(none) = 1", 1, api.ErrEmpty)
	wantWrong(t, "unexport $(error a)", 1, api.ErrUser, "a")
	wantWrong(t, "\nexport $(a", 2, api.ErrRef)
}

func TestP1803Undefine(t *testing.T) {
	for text, want := range map[string]string{"undefine a": "a", "a = 1\nundefine a": "a", "a = 1\nundefine  $(none)a # c": "a", "a b = 1\nundefine  a b ": "a b", "a = 1\nundefine a b": "a=1", "a = 1\nundefine": "a=1", "a = 1\nundefine $(none)": "a=1", "a = 1\nb = a\nundefine $(b)": "a", "override a = 1\nundefine a": "a=1", "override a = 1\noverride undefine a": "a", "a = 1\nifdef no\nundefine a\nendif": "a=1", "undefine a\na ?= 1": "a=1"} {
		wantVars(t, text, want)
	}
	s := vars.New()
	s.Set("a", "1", api.FlavSimple, api.OrigEnv)
	s.Set("b", "1", api.FlavSimple, api.OrigEnvOver)
	wantVarsIn(t, s, "undefine a\nundefine b", "a", "b=1")
	wantWrong(t, "undefine $(error a)", 1, api.ErrUser, "a")
}

func TestP1803Vpath(t *testing.T) {
	for text, want := range map[string]string{
		"vpath %.c src": "%.c in \"src\"\n", "vpath %.c src:lib d # c": "%.c in \"src lib d \"\n", "vpath  %.c \t a  b": "%.c in \"a  b\"\n", "vpath %.c a\nvpath %.c b\nvpath %.h c": "%.c in \"a\"\n%.c in \"b\"\n%.h in \"c\"\n", "vpath %.c a\nvpath %.h c\nvpath %.c b\nvpath %.c": "%.h in \"c\"\n", "vpath %.c a\nvpath %.h": "%.c in \"a\"\n", "vpath %.c a\nvpath %.h b\nvpath": "", "vpath": "", "vpath # c": "", "vpath %": "",
		"vpath %.c a\nvpath %.c $(none)": "", "vpath %.c a\nvpath %.c :": "", "vpath %.c a\nvpath %.c $(none) : ": "", "p = %.c\nd = a:b\nvpath $(p) $(d)": "%.c in \"a b\"\n", "vpath $(if a, %.c ) a": "%.c in \"a\"\n", "vpath $(if a,%.c b)": "", "d = %.c a\nvpath $(d)": "", "vpath $(none) a": " in \"a\"\n", "vpath x$(if a,b c)y d": "xb cy in \"d\"\n", "vpath %.c a::b:": "%.c in \"a  b \"\n", "vpath x.c \\\n a \\\n b": "x.c in \"a b\"\n", "ifdef a\nvpath % d\nendif": "", "vpath %.c a\n$(eval vpath %.h b)\n$(eval vpath %.c)": "%.h in \"b\"\n",
	} {
		wantBase(t, text, want)
	}
	wantWrong(t, "vpath $(error a) b", 1, api.ErrUser, "a")
	wantWrong(t, "\nvpath % a $(error b)", 2, api.ErrUser, "b")
	wantWrong(t, "vpath $(a b", 1, api.ErrRef)
}

func TestP1804EachAssignment(t *testing.T) {
	given := "r = $(x)\ns := x\nx = 1\n"
	for line, want := range map[string]api.Var{
		"a = $(x)$(": {Value: "$(x)$(", Flav: api.FlavRecursive}, "a := $(x)$$": {Value: "1$", Flav: api.FlavSimple}, "a ::= $(x)": {Value: "1", Flav: api.FlavSimple}, "a ?= $(x)": {Value: "$(x)", Flav: api.FlavRecursive}, "a += $(x)": {Value: "$(x)", Flav: api.FlavRecursive}, "a != echo $(x)": {Value: "1", Flav: api.FlavRecursive},
		"a =": {Flav: api.FlavRecursive}, "a :=": {Flav: api.FlavSimple}, "a = x # c": {Value: "x ", Flav: api.FlavRecursive}, "a :=  x\t ": {Value: "x\t ", Flav: api.FlavSimple}, "a=b=c:=d": {Value: "b=c:=d", Flav: api.FlavRecursive}, "$(none) a = x\\#y": {Value: "x#y", Flav: api.FlavRecursive}, "a = 1 \\\n  2 \\\n\n": {Value: "1 2 ", Flav: api.FlavRecursive},
		"r ?= 2": {Name: "r", Value: "$(x)", Flav: api.FlavRecursive}, "r += $(x)": {Name: "r", Value: "$(x) $(x)", Flav: api.FlavRecursive}, "s += $(x)": {Name: "s", Value: "x 1", Flav: api.FlavSimple}, "s +=": {Name: "s", Value: "x ", Flav: api.FlavSimple}, "s = $(x)": {Name: "s", Value: "$(x)", Flav: api.FlavRecursive}, "r := $(x)": {Name: "r", Value: "1", Flav: api.FlavSimple}, "s != echo $$x $(x)": {Name: "s", Value: "1", Flav: api.FlavRecursive}, "s :=\ns += $(x)": {Name: "s", Value: "1", Flav: api.FlavSimple}, "s :=\ns ?= 1": {Name: "s", Flav: api.FlavSimple},
		"$(s)$(x)y = 2": {Name: "x1y", Value: "2", Flav: api.FlavRecursive}, "  a b  =2": {Name: "a b", Value: "2", Flav: api.FlavRecursive}, "$(if y, z ) := $(x)": {Name: "z", Value: "1", Flav: api.FlavSimple}, "a+ += 1": {Name: "a+", Value: "1", Flav: api.FlavRecursive}, "a;b = 1": {Name: "a;b", Value: "1", Flav: api.FlavRecursive}, "$(a:b=c)a = 1": {Value: "1", Flav: api.FlavRecursive},
	} {
		if want.Name == "" {
			want.Name = "a"
		}
		want.Origin = api.OrigFile
		if v := read(t, given+line, want.Name); v != want {
			t.Errorf("%q: %+v, not %+v", line, v, want)
		}
	}
	for _, sign := range []string{"=", ":=", "::=", "?=", "+=", "!="} {
		for _, name := range []string{"", " ", "$(none)", "$(none) $(none)", "override ", "export ", "$(if a, )"} {
			if name == "override " || name == "export " {
				name += "$(none)"
			}
			wantWrong(t, "\n"+name+sign+" $(info a)", 2, api.ErrEmpty)
			wantWrong(t, name+sign, 1, api.ErrEmpty)
		}
		wantWrong(t, "$(error x) "+sign+" $(error y)", 1, api.ErrUser, "x")
	}
	for _, text := range []string{"a := $(error x)", "a := 1\na += $(error x)", "a != $(error x)", "a != echo $(error x)"} {
		wantWrong(t, text, 1+strings.Count(text, "\n"), api.ErrUser, "x")
	}
	wantVars(t, "a = $(error x)\nb = 1\na += $(error y)\na ?= $(error z)", "a=$(error x) $(error y)")
	// The name comes ahead of the value.
	wantBase(t, "$(info 1)a := $(info 2)", "event 6 5 \"1\"\nevent 6 5 \"2\"\n")
	// The value may turn the variable on the way.
	wantVars(t, "a := 1\na += $(eval a := 2)3", "a=2 3")
	wantVars(t, "a := 1\na += $(eval a = $$$$(b))$$(c)", "a=$$(b) $(c)")
	wantVars(t, "a := 1\na += $(eval undefine a)2", "a=2")
	wantVars(t, "a := 1\na += $(eval override a := 2)3", "a=2")
}

func TestP1804WhatIsSetFromElsewhere(t *testing.T) {
	for origin := api.OrigNone; origin <= api.OrigAuto; origin++ {
		for _, line := range []string{"v = new", "v := new", "v != echo new", "define v\nnew\nendef", "export v = new"} {
			s := vars.New()
			s.Set("v", "old", api.FlavSimple, origin)
			want := "v=old"
			if origin <= api.OrigFile {
				want = "v=new"
			}
			wantVarsIn(t, s, line+"\nw = 1", want, "w=1")
			if origin <= api.OrigOverride {
				want = "v=newer"
			}
			wantVarsIn(t, s, "override v = newer", want)
		}
		s := vars.New()
		s.Set("v", "old", api.FlavSimple, origin)
		want := "v=old"
		if origin <= api.OrigFile {
			want = "v=old new"
		}
		wantVarsIn(t, s, "v ?= new\nv += new", want)
	}
	// More than the store has room for is not set, and is no error.
	s := vars.New()
	for i := range api.MaxVars - 1 {
		s.Set(fmt.Sprint("v", i), "x", api.FlavSimple, api.OrigFile)
	}
	wantVarsIn(t, s, "a = 1\nb := 2\nb += 3\nv0 = 4\nx:\n", "MAKEFILE_LIST= m", "a", "b", "v0=4", ".DEFAULT_GOAL")
}

func TestP1805TargetsVariables(t *testing.T) {
	for text, want := range map[string]string{
		"x: v = 1": "x.v 1 \"1\" false\n", "x y:v:=$(a)": "x.v 2 \"$(a)\" false\ny.v 2 \"$(a)\" false\n", "x: v ::= 1": "x.v 2 \"1\" false\n", "x: v ?= 1 # c": "x.v 3 \"1 \" false\n", "x: v += $(": "x.v 4 \"$(\" false\n", "x: v != echo": "x.v 5 \"echo\" false\n", "x:v=": "x.v 1 \"\" false\n", "x:: v = 1": "x.v 1 \"1\" false\n",
		"%.o: v = 1": "%.o.v 1 \"1\" false\n", "%.o x: v = 1": "%.o.v 1 \"1\" false\nx.v 1 \"1\" false\n", "./x .//./y ./: v = 1": "x.v 1 \"1\" false\ny.v 1 \"1\" false\n..v 1 \"1\" false\n", "*.c: v = 1": "*.c.v 1 \"1\" false\n", "l(a b): v = 1": "l(a.v 1 \"1\" false\nb).v 1 \"1\" false\n", "a = x y\nn = v w\n$(a): $(n) = $(a)": "x.v w 1 \"$(a)\" false\ny.v w 1 \"$(a)\" false\n", "x x: v = 1": "x.v 1 \"1\" false\nx.v 1 \"1\" false\n",
		"x: override v = 1": "x.v 1 \"1\" true\n", "x: override  v w := 1": "x.v w 2 \"1\" true\n", "x:override\tv+=1": "x.v 4 \"1\" true\n", "x: override = 1": "x.override 1 \"1\" false\n", "x: override override = 1": "x.override 1 \"1\" true\n", "x: overrides v = 1": "x.overrides v 1 \"1\" false\n", "o = override\nx: $(o) v = 1": "x.override v 1 \"1\" false\n", "x: export v = 1": "x.export v 1 \"1\" false\n",
		"$(none): v = 1": "", ": v = 1": "", "x: v = a ; b": "x.v 1 \"a ; b\" false\n", "x: v = 1\nx: v = 2": "x.v 1 \"1\" false\nx.v 1 \"2\" false\n", "x: y ; v = 1": "x:y [\"v = 1\"]\n", "ifdef a\nx: v = 1\nendif": "", "x: $(info a)v = $(info b)": "x.v 1 \"$(info b)\" false\nevent 6 5 \"a\"\n", ".x: v = 1": ".x.v 1 \"1\" false\n",
	} {
		wantBase(t, text, want)
	}
	for _, sign := range []string{"=", ":=", "?=", "+=", "!="} {
		for _, name := range []string{" ", "$(none)", " override $(none)", "$(none) $(none)"} {
			wantWrong(t, "\nx:"+name+sign+" 1", 2, api.ErrEmpty)
		}
	}
	wantWrong(t, "$(error a): $(error b) = $(error c)", 1, api.ErrUser, "a")
	wantWrong(t, "x: $(error b) = $(error c)", 1, api.ErrUser, "b")
	// It sets nothing, opens no rule, and is no default goal.
	wantVars(t, "x: v = 1", "v", ".DEFAULT_GOAL")
	wantWrong(t, "x: v = 1\n\techo", 2, api.ErrTab)
}

func TestP1806Rules(t *testing.T) {
	for text, want := range map[string]string{
		"x:": "x:\n", "x: y z": "x:y z\n", "x y: z\n\tr": "x y:z [\"r\"]\n", "x: y ; r;s": "x:y [\"r;s\"]\n", "x: ;": "x: [\"\"]\n", "x:;\n\tr": "x: [\"\" \"r\"]\n", "x: ; # c": "x: [\"\"]\n", "x: y|z": "x:y|z\n", "x: y | z w": "x:y|z w\n", "x: | y": "x:|y\n", "x:: y\nx:: z": "x::y\nx::z\n", "x: y\nx: z": "x:y\nx:z\n", "./x: .//y | ./z": "x:y|z\n", "l(a b): c": "l(a) l(b):c\n", "x: y # c": "x:y\n", " x :y": "x:y\n", "x: \\\n y \\\n z": "x:y z\n",
		"%.o: %.c": "%.o:%.c pattern\n", "%.o %.p:: %.c | d ; r": "%.o %.p:%.c|d pattern terminal [\"r\"]\n", "a.o b.o: %.o: %.c x | d": "a.o b.o:%.o:%.c x|d\n", "a.o:: %.o : %.c ; r": "a.o::%.o:%.c [\"r\"]\n", "x: ; v = 1": "x: [\"v = 1\"]\n", "x: $(a;b)": "x:\n", "x: y:=z ; r": "x.y 2 \"z ; r\" false\n",
		"a = y z\nx $(a): $(a)w | $(a) ; $(a)": "x y z:y zw|y z [\"$(a)\"]\n", "c = :\nx$(c) y: z": "x: y:z\n", "a = ; r\nx: y $(a)": "x:y ; r\n",
		"x: *.c | *.h": "x:a.c b.c|*.h\n", "x: | *.c *.h": "x:|a.c b.c *.h\n", "*.c: d/* q?": "a.c b.c:d/x.c q?\n", "x: ./*.c [ab].c": "x:a.c b.c a.c b.c\n", "?.c: %.c: *.c %.h": "a.c b.c:%.c:a.c b.c %.h\n", "%.o: *.c": "%.o:a.c b.c pattern\n", "x: a\\*": "x:a\\*\n",
		".PHONY: x\nx:": ".PHONY:x\nx:\n",
	} {
		wantBase(t, text, want)
	}
	for text, want := range map[string]api.Errno{
		": y": api.ErrSep, "$(none): y": api.ErrSep, " : ": api.ErrSep, "::": api.ErrSep, "; x: y": api.OK, "%.o x: y": api.ErrMixed, "x %: y": api.ErrMixed, "x: y: z": api.ErrMany, "x: %: %: z": api.OK, "x y: %x: z": api.ErrMixed, "%: %: z": api.ErrMixed, "x: % %: z": api.ErrMany, "x: :": api.ErrMany, "a = %.o x\n$(a): y": api.ErrMixed, "a = y: z\nx: $(a)": api.ErrMany, "$(error a): $(error b)": api.ErrUser, "x: $(error b)": api.ErrUser, "x: $(y": api.ErrRef,
	} {
		_, line, _, e := Read(vars.New(), usual(t), "m", text, plenty)
		if e != want || e != api.OK && line != 1+strings.Count(text, "\n") {
			t.Errorf("%q: line %d, error %d, not %d", text, line, int(e), int(want))
		}
	}
	// The left side comes ahead of the right one, and that ahead of what is wrong with them.
	wantWrong(t, "$(info 1): $(info 2)", 1, api.ErrSep, "1", "2")
	wantWrong(t, "$(error 1): $(info 2)", 1, api.ErrUser, "1")
	wantBase(t, "x$(info 1): $(info 2) ; $(info 3)", "x: [\"$(info 3)\"]\nevent 6 5 \"1\"\nevent 6 5 \"2\"\n")
}

func TestP1806SecondExpansion(t *testing.T) {
	const on = ".SECONDEXPANSION:\n"
	for text, want := range map[string]string{
		"x: $$(y) z": "x:< $(y) z>\n", "x y:: $$@ | *.c ; r": "x y::< $@ | *.c > [\"r\"]\n", "x:": "x:\n", "x: ": "x:< >\n", "a = $$(b)\nx: $(a) $$$$": "x:< $(b) $$>\n", "a.o: %.o: $$*.c | d": "a.o:%.o:< $*.c | d>\n", "a.o: %.o : $$(x:a=b)": "a.o:%.o:< $(x:a=b)>\n", "a.o: %.o :$$(x:a=b)": "a.o:< %.o :$(x:a=b)>\n", "a.o: %.o:": "a.o:%.o:\n", "%.o: $$*.c ; r": "%.o:< $*.c > pattern [\"r\"]\n", "r = x: $$$$(y)\n$(r)": "x:< $$(y)>\n", "*.c: x": "a.c b.c:< x>\n", "x: $$(y z:a=b)": "x:< $(y z:a=b)>\n", "x: l(a: b)": "x:< l(a: b)>\n",
	} {
		wantBase(t, on+text, ".SECONDEXPANSION:\n"+want)
	}
	// It counts for the rules behind it, from wherever it stands.
	wantBase(t, "x: y\n.SECONDEXPANSION: z\nx: y", "x:y\n.SECONDEXPANSION:z\nx:< y>\n")
	wantBase(t, on+"x: v = $$(y)", ".SECONDEXPANSION:\nx.v 1 \"$$(y)\" false\n")
	wantBase(t, on+"x: y\n%: z\nv = 1\nw: u", ".SECONDEXPANSION:\nx:< y>\n%:< z> pattern\nw:< u>\n")
	wantBase(t, "x .SECONDEXPANSION: a\n.SECONDEXPANSION: z", "x .SECONDEXPANSION:a\n.SECONDEXPANSION:< z>\n")
	wantBase(t, "$(eval .SECONDEXPANSION:)\nx: y", ".SECONDEXPANSION:\nx:< y>\n")
	wantBase(t, "ifdef a\n.SECONDEXPANSION:\nendif\n.SECONDEXPANSION: v = 1\nx: .SECONDEXPANSION\ny: z", "x:.SECONDEXPANSION\ny:z\n.SECONDEXPANSION.v 1 \"1\" false\n")
	f := tree(t, "i=.SECONDEXPANSION:", "j=x: y")
	if b, _, _, e := Read(vars.New(), f, "m", "include i\ninclude j", plenty); e != api.OK || told(b) != ".SECONDEXPANSION:\nx:< y>\n" {
		t.Errorf("of an included file: %d, %s", int(e), told(b))
	}
	// What is wrong with the sides is so all the same.
	wantWrong(t, on+"x: y: z", 2, api.ErrMany)
	wantWrong(t, on+"x: %.o: z", 2, api.ErrMixed)
	wantWrong(t, on+": z", 2, api.ErrSep)
}

func TestP1806ALineWithoutASeparator(t *testing.T) {
	for text, want := range map[string]string{
		"r = x: y\n$(r)\n\techo": "x:y [\"echo\"]\n", "r = x y:: z | w ; e $$(a) # c\n$(r)": "x y::z|w [\"e $(a) \"]\n", "r = a.o: %.o: %.c\n  $(r)": "a.o:%.o:%.c\n", "r = %.o: %.c\n$(r) d": "%.o:%.c d pattern\n", "r := x: $$(y)\n$(r)": "x:$(y)\n", "r = x:\n$(r) *.c": "x:a.c b.c\n", "define r\nx: y\nz\nendef\n$(r)": "x:y z\n",
		"$(none)": "", "$(none) $(none) # c": "", "$(if a, )": "", "$(info a)": "event 6 5 \"a\"\n", "$(eval x:)\n$(eval y:)": "x:\ny:\n", "$(foreach i,1 2,$(eval x$(i): $(i) ; $$@))": "x1:1 [\"$@\"]\nx2:2 [\"$@\"]\n",
	} {
		wantBase(t, text, want)
	}
	for _, text := range []string{"foo", "x y", "$(a)x", "r = a = 1\n$(r)", "r = a := 1\n$(r)", "r = x: v = 1\n$(r)", "r = endif\n$(r)", "r = include one\n$(r)", "\\#x", "x ; y", "r = \\# c\n$(r)", "$$", "$(if a,b)", "%"} {
		wantWrong(t, text, 1+strings.Count(text, "\n"), api.ErrSep)
	}
	for text, want := range map[string]api.Errno{"r = : y\n$(r)": api.ErrSep, "r = x: y: z\n$(r)": api.ErrMany, "r = %.o x: y\n$(r)": api.ErrMixed, "\n$(error a)": api.ErrUser, "\n$(a": api.ErrRef} {
		if _, line, _, e := Read(vars.New(), nil, "m", text, plenty); line != 2 || e != want {
			t.Errorf("%q: line %d, error %d", text, line, int(e))
		}
	}
}

func TestP1806ManyRules(t *testing.T) {
	rules := func(n int) string {
		var b strings.Builder
		for i := range n {
			fmt.Fprintf(&b, "x%d:\n", i)
		}
		return b.String()
	}
	if b, _, _, e := Read(vars.New(), nil, "m", rules(500)+"v = 1\nx: v = 1\n$(none)\n", plenty); e != api.OK || len(b.Rules) != 500 || len(b.Aims) != 1 {
		t.Errorf("500 rules: %d, error %d", len(b.Rules), int(e))
	}
	for behind, want := range map[string]api.Errno{"x:": api.ErrLong, "$(eval x:)": api.ErrLong, "%:x ; y": api.ErrLong, "x y: z": api.ErrLong, ": y": api.ErrSep, "x: y: z": api.ErrMany, "x: $(error z)": api.ErrUser, "foo": api.ErrSep} {
		if b, line, _, e := Read(vars.New(), nil, "m", rules(500)+behind+"\n", plenty); line != 501 || e != want || b.Rules != nil {
			t.Errorf("500 rules and %q: line %d, error %d", behind, line, int(e))
		}
	}
}

func TestP1806TheDefaultGoal(t *testing.T) {
	for text, want := range map[string]struct{ goal, value string }{
		"": {}, "x: y\nz:": {"x", "x"}, "%: y\nx y: z": {"x", "x"}, ".x: y\nx:": {"x", "x"}, ".x/y: y\nx:": {".x/y", ".x/y"}, ".PHONY: x\n.x y: z\nz:": {"z", "z"}, "./x: y": {"x", "x"}, "..: y": {"", ""}, "../x: y": {"../x", "../x"}, "./.x:\n.:": {"", ""}, "x.y:": {"x.y", "x.y"}, "a.o: %.o: %.c": {"a.o", "a.o"}, "*.c: x": {"a.c", "a.c"}, "l(a):": {"l(a)", "l(a)"}, "x: v = 1": {}, "r = x: y\n$(r)": {"x", "x"}, "$(eval x:)\ny:": {"x", "x"}, "include sub\nx:": {"z", "z"}, "ifdef a\nx:\nendif\ny:": {"y", "y"},
		".DEFAULT_GOAL = q\nx:": {"", "q"}, "x:\n.DEFAULT_GOAL = q\ny:": {"x", "q"}, "x:\n.DEFAULT_GOAL =\ny:\nz:": {"y", "y"}, "x:\nundefine .DEFAULT_GOAL\n%: y\ny:": {"y", "y"}, ".DEFAULT_GOAL = $(none)\nx:": {"", "$(none)"}, ".DEFAULT_GOAL :=\nx:": {"x", "x"}, "x:\n.DEFAULT_GOAL += y": {"x", "x y"},
	} {
		s := vars.New()
		b, line, _, e := Read(s, usual(t), "m", text, plenty)
		v, there := s.Get(".DEFAULT_GOAL")
		if e != api.OK || b.Goal != want.goal || v.Value != want.value || there != (want.value != "") {
			t.Errorf("%q: %q, %+v, line %d, error %d", text, b.Goal, v, line, int(e))
		}
		if b.Goal == want.value && there && (v.Flav != api.FlavSimple || v.Origin != api.OrigFile) {
			t.Errorf("%q: %+v", text, v)
		}
	}
	for origin := api.OrigDefault; origin <= api.OrigAuto; origin++ {
		s := vars.New()
		s.Set(".DEFAULT_GOAL", "", api.FlavRecursive, origin)
		b, _, _, _ := Read(s, nil, "m", "x:", 5)
		v, _ := s.Get(".DEFAULT_GOAL")
		if b.Goal != "x" || (v.Value == "x") != (origin <= api.OrigFile) {
			t.Errorf("an empty one of origin %d: %q, %+v", origin, b.Goal, v)
		}
		s.Set(".DEFAULT_GOAL", "q", api.FlavRecursive, api.OrigAuto)
		if b, _, _, _ := Read(s, nil, "m", "x:", 5); b.Goal != "" {
			t.Errorf("one of origin %d: %q", origin, b.Goal)
		}
	}
}

func TestP1807Long(t *testing.T) {
	just := strings.Repeat("x", api.MaxText)
	for _, size := range []int{api.MaxText + 1, 3 * api.MaxText} {
		s, f := vars.New(), tree(t, "a=1")
		b, line, left, e := Read(s, f, "m", strings.Repeat("\n", size), plenty)
		if e != api.ErrLong || line != 0 || left != plenty || !reflect.DeepEqual(b, api.Base{}) || len(s.List()) != 0 {
			t.Errorf("%d bytes: %+v, %d, %d, %d, %v", size, b, line, left, int(e), s.List())
		}
		if _, _, left, e := Read(s, f, "m", strings.Repeat("x", size), -1); e != api.ErrLong || left != 0 {
			t.Errorf("%d bytes without fuel: %d, %d", size, left, int(e))
		}
	}
	if _, line, left, e := Read(vars.New(), nil, "m", "v = "+just[4:], 1); e != api.OK || line != 0 || left != 0 {
		t.Errorf("MaxText bytes: %d, %d, %d", line, left, int(e))
	}
	given := "h := " + just[:api.MaxText/2-20] + "\nhh := $(h)$(h)" + strings.Repeat("y", 40) + "\n"
	for text, e := range map[string]api.Errno{
		"v := $(hh)": api.OK, "v := $(hh)y": api.ErrLong, "v := $(hh)\nv +=": api.ErrLong, "v := $(h)\nv += $(h)": api.OK, "v := $(hh)\nv += y": api.ErrLong, "define v :=\n$(hh)\nendef": api.OK, "define v :=\n$(hh)\n\nendef": api.ErrLong, "v := $(hh)\ndefine v +=\ny\nendef": api.ErrLong, "v = $(hh)y\nv += $(hh)": api.OK, "v :=\nv += $(hh)": api.OK, "v :=\nv += $(hh)y": api.ErrLong,
		"$(hh)y = 1": api.ErrLong, "v = $(hh)y\n$(if ,$(v))": api.OK, "$(eval v = $(hh)y)": api.ErrLong, "$(eval v = $$(hh)y)": api.OK, "$(eval v := $$(hh)y)": api.ErrLong, "override hh += y": api.ErrLong, "export hh += y": api.ErrLong, "v != echo $(h)": api.OK, "v != echo $(hh)": api.ErrLong, "ifeq ($(hh)y,)\nendif": api.ErrLong, "x: $(hh) y": api.ErrLong, "hh ?= $(hh)$(hh)": api.OK,
	} {
		s := vars.New()
		if _, line, _, got := Read(s, nil, "m", given+text, plenty); got != e || e != api.OK && (line < 3 || line > 4) {
			t.Errorf("%q: line %d, error %d, not %d", text, line, int(got), int(e))
		}
		if v, _ := s.Get("v"); len(v.Value) > api.MaxText {
			t.Errorf("%q: %d bytes", text, len(v.Value))
		}
	}
	// One that is not to be set is not too long.
	s := vars.New()
	s.Set("v", just, api.FlavRecursive, api.OrigCommand)
	s.Set("MAKEFILE_LIST", just, api.FlavSimple, api.OrigCommand)
	wantVarsIn(t, s, "v += x\nexport v += y\ninclude one", "v="+just, "MAKEFILE_LIST="+just)
	s.Set("w", just, api.FlavRecursive, api.OrigFile)
	if _, line, _, e := Read(s, nil, "m", "\nw += x", plenty); line != 2 || e != api.ErrLong {
		t.Errorf("one that was long: line %d, error %d", line, int(e))
	}
	// So is a list of makefiles.
	s = vars.New()
	s.Set("MAKEFILE_LIST", just[2:], api.FlavRecursive, api.OrigFile)
	if _, line, _, e := Read(s, usual(t), "m", "\ninclude one", plenty); line != 2 || e != api.ErrLong {
		t.Errorf("a long list of makefiles: line %d, error %d", line, int(e))
	}
	s = vars.New()
	if b, line, left, e := Read(s, nil, just, "x", plenty); line != 0 || left != plenty || e != api.ErrLong || !reflect.DeepEqual(b, api.Base{}) || len(s.List()) != 0 {
		t.Errorf("a long name: line %d, %d, error %d", line, left, int(e))
	}
}

func TestP1807LinesOfErrors(t *testing.T) {
	for _, wrong := range []struct {
		text string
		e    api.Errno
	}{{"$(error x)", api.ErrUser}, {"foo", api.ErrSep}, {"endif", api.ErrCond}, {"a := $(r", api.ErrRef}, {": x", api.ErrSep}, {"define a", api.ErrDefine}, {"= 1", api.ErrEmpty}, {"\tx", api.ErrTab}, {"include d", api.ErrIsDir}, {"x: y: z", api.ErrMany}, {"$(word 0,a)", api.ErrNumber}, {"ifdef", api.ErrCond}, {"$(eval \\\n endif)", api.ErrCond}, {"v = $(v)\nx: $(v)", api.ErrSelf}} {
		for _, ahead := range []string{"", "\n", "a = 1 \\\n 2\n", "define a\n\n\nendef\n# c\n", "x:\n\ta \\\n\tb\nb = 1\n", "ifdef none\nx\n\nendif\n", "include one\n\n"} {
			line := 1 + strings.Count(ahead, "\n")
			at := line + strings.Count(strings.TrimPrefix(wrong.text, "$(eval \\"), "\n")
			if strings.HasPrefix(wrong.text, "$(eval") {
				at = line
			}
			text := ahead + wrong.text + " \\\n\n\n"
			if wrong.text == "foo" || wrong.text == "= 1" {
				text = ahead + wrong.text + "\n\n"
			}
			if _, got, _, e := Read(vars.New(), usual(t), "m", text, plenty); got != at || e != wrong.e {
				t.Errorf("%q: line %d, error %d, not line %d, error %d", text, got, int(e), at, int(wrong.e))
			}
			// Within an included file, and an eval, it is the line that has that.
			f := usual(t)
			f.Write("bad", []byte(text), false)
			if _, got, _, e := Read(vars.New(), f, "m", "\n-include bad\n\n", plenty); got != 2 || e != wrong.e {
				t.Errorf("%q, included: line %d, error %d", text, got, int(e))
			}
			s := vars.New()
			s.Set("bad", text, api.FlavRecursive, api.OrigEnv)
			if _, got, _, e := Read(s, usual(t), "m", "a = $(eval $(value bad))\n\n\nb := \\\n$(a)\n", plenty); got != 4 || e != wrong.e {
				t.Errorf("%q, evaled: line %d, error %d", text, got, int(e))
			}
		}
	}
}

func TestShellsOutput(t *testing.T) {
	for command, want := range map[string]string{
		"echo x": "x", "echo x; echo y": "x y", "echo x; echo; echo y; echo; echo": "x  y", "printf 'a'": "a", "printf '\\n\\na\\n'": "  a", "echo": "", "": "", "false": "", "echo ' x '": " x ", "printf 'a\\n \\n'": "a  ", "echo 'a\tb'": "a\tb", "echo '$$(r)'": "$(r)", "nothing": "", "a &&": "", "cat a.c b.c": "ab", "echo a,b": "a,b", "make all": "",
	} {
		wantVars(t, "v := <$(shell "+command+")>", "v=<"+want+">")
		wantVars(t, "v != "+command, "v="+want)
		wantVars(t, "define v !=\n"+command+"\nendef", "v="+want)
	}
	// A text that a command has printed is a value: it is not expanded another time but by what it stands in.
	wantVars(t, "a = 1\nv != echo '$$(a)'\nw := $(shell echo '$$(a)')", "v=$(a)", "w=$(a)")
	wantVars(t, "a = 1\nv != echo $(a)$$(a)\nw := $(v)", "v=1", "w=1")
	if v := read(t, "v != echo x", "v"); v.Flav != api.FlavRecursive || v.Origin != api.OrigFile {
		t.Errorf("!=: %+v", v)
	}
	long := "v := $(shell i=$$x; while test -n \"$$i\"; do echo $$i; i=; done)"
	s := vars.New()
	s.Set("x", strings.Repeat("y", api.MaxText-1), api.FlavSimple, api.OrigEnv)
	wantVarsIn(t, s, long, "v="+strings.Repeat("y", api.MaxText-1))
	s.Set("x", strings.Repeat("y", api.MaxText+9), api.FlavSimple, api.OrigEnv)
	wantVarsIn(t, s, long+"\nw = 1", "w=1", ".SHELLSTATUS=0")
}

func TestShellsStatus(t *testing.T) {
	for command, want := range map[string]string{"true": "0", "false": "1", "exit 3": "3", "exit 300": "44", "nothing": "127", "a &&": "2", "": "0", "false; true": "0", "make": "127"} {
		for _, text := range []string{"v != " + command, "v := $(shell " + command + ")", "$(if $(shell " + command + "),)", "$(eval v != " + command + ")", "$(call shell," + command + ")"} {
			s := vars.New()
			if _, _, _, e := Read(s, usual(t), "m", "override .SHELLSTATUS = 9\n"+text, plenty); e != api.OK && e != api.ErrSep {
				t.Errorf("%q: error %d", text, int(e))
			}
			if v, _ := s.Get(".SHELLSTATUS"); v != (api.Var{Name: ".SHELLSTATUS", Value: want, Flav: api.FlavSimple, Origin: api.OrigOverride}) {
				t.Errorf("%q: %+v", text, v)
			}
		}
	}
	wantVars(t, "v := $(shell exit 3)$(.SHELLSTATUS)$(shell true)$(.SHELLSTATUS)", "v=30")
	s := vars.New()
	s.Set(".SHELLSTATUS", "x", api.FlavSimple, api.OrigAuto)
	wantVarsIn(t, s, "v := $(shell exit 3)$(.SHELLSTATUS)", "v=x")
}

func TestShellsEnvironment(t *testing.T) {
	show := "w := $(shell echo \"$$a.$$b.$$c.$$_1.$${A}\")"
	for text, want := range map[string]string{
		"a = 1\nb := 2": "....", "export a = 1": "1....", "export a b\na = $(x)\nx = $(y)\ny = 3\nb := $$(x)": "3.$(x)...", "export a\na = 1\nunexport a": "....", "export c\nc =": "....", "export _1 = 1\nexport A = 2": "...1.2", "export 1 = 1\nexport a-b = 1\nexport .a = 1\nexport a.b = 1\nexport a b = 1": "....", "export a = 1\nundefine a": "....", "export a = $(b)\nexport b = $(c)\nc = 1": "1.1...", "$(foreach a,1 2,$(eval export a))": "....", "export a\na != echo 1": "1....", "export a = x \\\n y": "x y....",
		"export 1a = $(error x)\nexport a.b = $(error y)\na = 1": "....", "export a = $(info 1)x": "x....",
	} {
		wantVars(t, text+"\n"+show, "w="+want)
		wantVars(t, text+"\n"+strings.Replace(strings.Replace(show, "w := $(shell ", "w != ", 1), ")", "", 1), "w="+want)
	}
	for origin := api.OrigNone; origin <= api.OrigAuto; origin++ {
		for how := range 3 {
			s := vars.New()
			s.Set("v", "$(x)", api.FlavRecursive, origin)
			s.Export("v", how)
			s.Set("x", "1", api.FlavSimple, api.OrigFile)
			want := "w="
			if how == 1 || how == 0 && (origin == api.OrigEnv || origin == api.OrigEnvOver || origin == api.OrigCommand) {
				want = "w=1"
			}
			wantVarsIn(t, s, "w := $(shell echo $$v)", want)
		}
	}
	// What is lent to a name is so in the environment, too.
	wantVars(t, "export a = 1\nw := $(shell echo $$a)$(foreach a,2 3,$(shell echo $$a))$(shell echo $$a)", "w=12 31")
	// Names rise, and the first error among them is told.
	wantWrong(t, "export b = $(error b)$(info x)\nexport B = $(info B)\nexport a = $(info a)\n$(shell echo)", 4, api.ErrUser, "B", "a", "b")
	wantWrong(t, "export a = $(x\nv != echo", 2, api.ErrRef)
	for _, text := range []string{"export a = $(shell echo)\nv != echo", "export a = $(shell echo)\nv := $(a)", "export a = $(shell echo)\nv := $(shell echo)", "export a = $(a)\nv != echo", "b = $(shell echo)\nexport a = $(b)\nv := $(b)"} {
		wantWrong(t, text, 2+strings.Count(text, "\nexport"), api.ErrSelf)
	}
	s := vars.New()
	s.Set("", "$(error x)", api.FlavRecursive, api.OrigEnv)
	s.Set("v", "$(x)", api.FlavSimple, api.OrigEnv)
	wantVarsIn(t, s, "w != echo $$v", "w=$(x)")
	// A simple value stands as it is, however long.
	s = vars.New()
	s.Set("v", strings.Repeat("$", api.MaxText+5), api.FlavSimple, api.OrigEnv)
	wantVarsIn(t, s, "w != echo x", "w=x")
}

func TestShellsFilesAndFuel(t *testing.T) {
	f := usual(t)
	s := vars.New()
	if _, _, left, e := Read(s, f, "m", "v := $(shell echo 1 >new; rm a.c; cat b.c new)$(wildcard *.c)\ninclude new", 100); e != api.ErrSep || left != 92 || f.Stat("a.c").Kind != 0 || f.Stat("new").Kind != 1 {
		t.Errorf("files that a command changes: %d, error %d", left, int(e))
	}
	if v, _ := s.Get("v"); v.Value != "b1b.c" {
		t.Errorf("files that a command changes: %q", v.Value)
	}
	wantWrong(t, "\nv != while :; do :; done", 2, api.ErrFuel)
	wantWrong(t, "\n$(info a)$(shell until false; do echo; done)", 2, api.ErrFuel, "a")
	// Without files there are none, and nothing can be written.
	for command, want := range map[string]string{"echo x": "x", "cat a": "", "echo x >a; echo $$?": "1", "echo *": "*"} {
		s := vars.New()
		_, _, _, e := Read(s, nil, "m", "v != "+command, plenty)
		if v, _ := s.Get("v"); e != api.OK || v.Value != want {
			t.Errorf("%q without files: %q, %d", command, v.Value, int(e))
		}
	}
	if _, line, _, e := Read(vars.New(), nil, "m", "\nx := $(wildcard *)", plenty); line != 2 || e != api.ErrHost {
		t.Errorf("wildcard without files: line %d, error %d", line, int(e))
	}
	if b, _, _, e := Read(vars.New(), nil, "m", "x: *.c", plenty); e != api.OK || told(b) != "x:*.c\n" {
		t.Errorf("a rule without files: %s, %d", told(b), int(e))
	}
}

func TestEval(t *testing.T) {
	for text, want := range map[string]string{
		"$(eval a = 1)": "a=1", "b = 1\n$(eval a = $(b))\nb = 2": "a=1", "$(eval a = $$(b))": "a=$(b)", "v := $(eval a = 1)$(a)": "v=1", "v = $(eval n += x)$(n)\nw := $(v)$(v)": "w=xx x", "$(eval a := $$(eval b = 1)$$(b))": "a=1", "$(eval )": "a", "$(eval  a = 1 )": "a=1 ", "define d\na = 1\nifdef a\nb = 2\nelse\nb = 3\nendif\nendef\n$(eval $(d))": "b=2", "define d\ndefine a\nx\nendef\nendef\n$(eval $(d))": "a=x", "define d\nifeq ($(1),x)\na = $(2)\nelse\na = none\nendif\nendef\n$(eval $(call d,x,y))": "a=y",
		"$(foreach i,1 2,$(eval v$(i) := $$(i)))": "v2=2", "$(foreach i,1 2,$(eval i = 3)$(eval override i = 4)$(eval undefine i))": "i", "i = 0\n$(foreach i,1 2,$(eval w += $$(i)))\n$(eval w += $(i))": "w=$(i) $(i) 0", "f = $(eval a := $$(1)$$(0))\n$(call f,x)": "a=xf", "a $(eval b = 1)= 2": "b=1", "$(eval ifdef = 1)": "ifdef=1", "$(eval override a = 1)\na = 2": "a=1", "$(eval export a)": "a=",
		"ifdef none\n$(eval a = 1)\nendif": "a", "a = $(eval b = 1)": "b", "a := $(if $(eval b = 1),x,$(b))": "a=1", "$(call eval,a = 1)": "a=1", "$(eval $(eval a = 1)b = $(a))": "b=1",
	} {
		wantVars(t, text, want)
	}
	for text, want := range map[string]string{
		"$(eval x: y ; r)": "x:y [\"r\"]\n", "x:\n\ta\n$(eval y:)\nz:": "x: [\"a\"]\ny:\nz:\n", "define d\nx: y\n\techo $$@\nendef\n$(eval $(d))": "x:y [\"echo $@\"]\n", "$(eval x: v = 1)$(eval vpath %.c d)$(eval include none)": "x.v 1 \"1\" false\n%.c in \"d\"\nno !none\n", "$(eval $(info a))$(eval $$(info b))": "event 6 5 \"a\"\nevent 6 5 \"b\"\n", "x: $(eval y:)z": "y:\nx:z\n", "x: $(eval a = 1)$(a)": "x:1\n",
	} {
		wantBase(t, text, want)
	}
	// No rule is open at its beginning, or left open behind it.
	wantWrong(t, "t := \ttab\n$(eval $(t))", 2, api.ErrSep)
	s := vars.New()
	s.Set("t", "\techo", api.FlavSimple, api.OrigFile)
	if _, line, _, e := Read(s, nil, "m", "x:\nifeq ($(eval $(t)),)\nendif", plenty); line != 2 || e != api.ErrTab {
		t.Errorf("a recipe's line in an eval: line %d, error %d", line, int(e))
	}
	wantWrong(t, "$(eval x:)\n\techo", 2, api.ErrTab)
	wantWrong(t, "x:\n$(eval y: z ; r)\n\techo", 3, api.ErrTab)
	// Its conditionals are its own.
	for _, text := range []string{"$(eval endif)", "$(eval else)", "$(eval ifdef x)", "ifndef x\n$(eval endif)\nendif", "ifndef x\n$(eval else)\nendif", "ifndef x\n$(eval ifdef y)\nendif", "$(if $(eval ifdef x),)\nendif"} {
		wantWrong(t, text, 1+strings.Count(text[:strings.Index(text, "$(")], "\n"), api.ErrCond)
	}
	for text, e := range map[string]api.Errno{"$(eval foo)": api.ErrSep, "$(eval endef)": api.ErrDefine, "$(eval define x)": api.ErrDefine, "$(eval = 1)": api.ErrEmpty, "$(eval x: y: z)": api.ErrMany, "$(eval include d)": api.ErrIsDir, "$(eval $$(error x))": api.ErrUser, "$(eval a = 1": api.ErrRef, "v := $(eval a := $$(word 0,x))": api.ErrNumber} {
		if _, line, _, got := Read(vars.New(), usual(t), "m", "\n\n"+text, plenty); line != 3 || got != e {
			t.Errorf("%q: line %d, error %d, not %d", text, line, int(got), int(e))
		}
	}
	// An error leaves nothing of what was lent.
	s = vars.New()
	s.Set("i", "0", api.FlavSimple, api.OrigFile)
	Read(s, nil, "m", "f = $(foreach i,1 2,$(eval v = $(i))$(eval $(1)))\n$(call f,endif)", plenty)
	var names []string
	for _, v := range s.List() {
		names = append(names, v.Name+"="+v.Value)
	}
	if want := []string{"MAKEFILE_LIST= m", "f=$(foreach i,1 2,$(eval v = $(i))$(eval $(1)))", "i=0", "v=1"}; !slices.Equal(names, want) {
		t.Errorf("behind an error: %q", names)
	}
}

func TestNotes(t *testing.T) {
	for text, want := range map[string]string{
		"$(warning a b)": "event 6 4 \"a b\"\n", "$(info  a,b )": "event 6 5 \"a,b \"\n", "x = 1\n$(info $(x))$(warning )": "event 6 5 \"1\"\nevent 6 4 \"\"\n", "v = $(info a)\nw := $(v)$(v)": "event 6 5 \"a\"\nevent 6 5 \"a\"\n", "$(call info,a)$(call warning,b,c)": "event 6 5 \"a\"\nevent 6 4 \"b\"\n", "x$(foreach i,1 2,$(info $(i))):": "x:\nevent 6 5 \"1\"\nevent 6 5 \"2\"\n", "x: ; $(info a)": "x: [\"$(info a)\"]\n", "ifdef none\n$(info a)\nendif": "", "v = $(info a)": "", "$(if a,,$(info a))$(if ,,$(info b))": "event 6 5 \"b\"\n", "ifeq ($(info a),)\n$(info b)\nendif": "event 6 5 \"a\"\nevent 6 5 \"b\"\n", "x: v = $(info a)": "x.v 1 \"$(info a)\" false\n", "$(info $(info a)b)": "event 6 5 \"a\"\nevent 6 5 \"b\"\n",
	} {
		wantBase(t, text, want)
	}
	b, line, _, e := Read(vars.New(), nil, "m", "$(info a)\n$(warning b)\n$(error  c d )$(info e)", plenty)
	if line != 3 || e != api.ErrUser || told(b) != "event 6 5 \"a\"\nevent 6 4 \"b\"\nevent 6 6 \"c d \"\n" {
		t.Errorf("error: line %d, error %d, %s", line, int(e), told(b))
	}
	wantWrong(t, "$(error )", 1, api.ErrUser, "")
	wantWrong(t, "$(error $(info a)b)", 1, api.ErrUser, "a", "b")
	wantWrong(t, "a = $(error x)\nb := $(a)", 2, api.ErrUser, "x")
}

func TestP1808WhatIsHandedInIsNotKept(t *testing.T) {
	const text = "a = plain\nx: y ; plain\n\tplain\nx y: v = plain\nvpath %.c plain\ninclude none one\n$(info plain)\nz: *.c | plain\n.SECONDEXPANSION:\nw: $$(plain)\nexport plain\n-include none\nu.o: %.o: plain\n"
	answer := func(bytes, name []byte, s *vars.Store, f *vfs.FS) api.Base {
		b, line, _, e := Read(s, f, unsafe.String(&name[0], len(name)), unsafe.String(&bytes[0], len(bytes)), plenty)
		if e != api.OK {
			t.Fatalf("line %d, error %d", line, int(e))
		}
		return b
	}
	s, f := vars.New(), usual(t)
	before := f.Tree()
	want := answer([]byte(text), []byte("m"), s, f)
	if !reflect.DeepEqual(before, f.Tree()) {
		t.Errorf("the files are others")
	}
	bytes, name := []byte(text), []byte("m")
	again, g := vars.New(), usual(t)
	got := answer(bytes, name, again, g)
	if string(bytes) != text || string(name) != "m" {
		t.Errorf("what was handed in is %q, %q", bytes, name)
	}
	for i := range bytes {
		bytes[i] = '#'
	}
	name[0] = '#'
	g.Write("one", []byte("########"), false)
	if !reflect.DeepEqual(got, want) || !slices.Equal(s.List(), again.List()) {
		t.Errorf("what was handed in is kept: %+v, not %+v; %+v, not %+v", got, want, again.List(), s.List())
	}
	// No two lists have anything in common, nor do two answers.
	spoil(got)
	if other := answer([]byte(text), []byte("m"), vars.New(), usual(t)); !reflect.DeepEqual(other, want) || !slices.Equal(s.List(), again.List()) {
		t.Errorf("what was answered is kept: %+v", other)
	}
}

// spoil writes over a base, and behind each of its lists as far as there is room; each list is held against what it was until then.
func spoil(b api.Base) {
	lists := [][]string{b.Files, b.Miss}
	for _, r := range b.Rules {
		lists = append(lists, r.Targets, r.Prereqs, r.Orders, r.Recipe)
	}
	for i, l := range lists {
		want := slices.Clone(l)
		for j, other := range lists {
			if i != j {
				other = other[:cap(other)]
				for k := range other {
					other[k] = "#"
				}
			}
		}
		if !slices.Equal(l, want) && !slices.Contains(l, "#") {
			panic("lists have something in common")
		}
	}
	for i := range b.Rules {
		b.Rules[i] = api.Rule{}
	}
	for i := range b.Events {
		b.Events[i].Text = "#"
	}
}

func TestP1808AnswersHangOnTheArguments(t *testing.T) {
	const text = "a = 1\nx: $(a) *.c ; r\n$(foreach i,1 2,$(eval v$(i) := $(shell echo $(i))))\ninclude one none\nexport a\nw != echo $$a\n$(info $(w))"
	s, f := vars.New(), usual(t)
	want, _, left, _ := Read(s, f, "m", text, 100)
	vars1, files := s.List(), f.Tree()
	var all sync.WaitGroup
	for range 8 {
		all.Add(1)
		go func() {
			defer all.Done()
			for range 20 {
				s, f := vars.New(), usual(t)
				got, line, rest, e := Read(s, f, "m", text, 100)
				if !reflect.DeepEqual(got, want) || line != 0 || rest != left || e != api.OK || !slices.Equal(s.List(), vars1) || !reflect.DeepEqual(f.Tree(), files) {
					t.Errorf("another answer: %+v, %d, %d, %d", got, line, rest, int(e))
				}
			}
		}()
	}
	all.Wait()
}

func TestNoStore(t *testing.T) {
	for _, s := range []*vars.Store{nil, {}} {
		b, line, left, e := Read(s, nil, "m", "a = x\n$(a): $(foreach i,1 2,$(i)$(eval b := $$(i)))$(b)\nc != echo $(a)\nd += $(c)", 100)
		if e != api.OK || line != 0 || left != 83 || told(b) != "x:1 22\n" || b.Goal != "x" {
			t.Errorf("no store: %s, %d, %d, %d", told(b), line, left, int(e))
		}
	}
}

func TestErrorsAreWrapped(t *testing.T) {
	r := newReader(vars.New(), usual(t), plenty)
	err := r.file("m", "\n\ninclude wrong")
	if place(err) != 3 || number(err) != api.ErrCond || err.Error() != "3: 3: anvil" {
		t.Errorf("an error of an included file: %v", err)
	}
	r = newReader(vars.New(), usual(t), plenty)
	err = r.file("m", "a = $(strip $(eval $(value b)))\ndefine b\n\ninclude wrong\nendef\nx := $(a)")
	if place(err) != 6 || number(err) != api.ErrCond || err.Error() != "6: a: strip: eval: 2: 3: anvil" {
		t.Errorf("an error of an eval: %v", err)
	}
	r = newReader(vars.New(), usual(t), 4)
	if err = r.file("m", "a = 1\n$(eval $$(if a,$(b)))"); place(err) != 2 || number(err) != api.ErrFuel || err.Error() != "2: anvil" {
		t.Errorf("out of fuel: %v", err)
	}
}
