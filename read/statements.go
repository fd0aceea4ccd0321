package read

import (
	"slices"
	"strings"

	"anvil/api"
	"anvil/rule"
	"anvil/text"
	"anvil/wild"
)

// Kinds of lines, as package rule tells them.
const (
	assignmentLine = iota + 1
	ruleLine
	scopedLine
)

// statement reads a line that is no directive. Of a recipe's kind it can be an assignment alone.
func (r *reader) statement(s string, kind int) {
	h := rule.Take(s)
	switch {
	case h.Kind == assignmentLine:
		r.assign(h, api.OrigFile)
	case kind == api.LineRecipe:
		r.fail(api.ErrTab)
	case h.Kind == scopedLine:
		r.aim(h)
	case h.Kind == ruleLine:
		h.Left = r.expand(h.Left)
		h.Right = r.expand(h.Right)
		r.rule(h)
	default:
		r.expanded(r.expand(s))
	}
}

// expanded reads what a line without a separator has come to.
func (r *reader) expanded(s string) {
	if strings.Trim(s, blanks) == "" {
		return
	}
	h := rule.Take(s)
	if h.Kind != ruleLine {
		r.fail(api.ErrSep)
	}
	r.rule(h)
}

// assign makes an assignment, and tells the variable's name.
func (r *reader) assign(h api.Head, origin int) string {
	v := api.Var{Name: r.nameOf(h.Left), Value: h.Right, Flav: api.FlavRecursive, Origin: origin}
	switch h.Set {
	case api.SetDefault:
		if _, there := r.vars.Get(v.Name); there {
			break
		}
		fallthrough
	case api.SetRecursive:
		r.must(r.set(v))
	case api.SetSimple:
		v.Value, v.Flav = r.expand(h.Right), api.FlavSimple
		r.must(r.set(v))
	case api.SetAppend:
		r.append(v)
	case api.SetShell:
		v.Value = r.told(r.Shell, r.expand(h.Right))
		r.must(r.set(v))
	}
	return v.Name
}

// nameOf tells the name of a variable that is set.
func (r *reader) nameOf(s string) string {
	name := text.Trim(r.expand(s))
	if name == "" {
		r.fail(api.ErrEmpty)
	}
	return name
}

// set sets a variable, unless it is of a greater origin.
func (r *reader) set(v api.Var) error {
	if r.withheld(v) {
		return nil
	}
	if len(v.Value) > api.MaxText {
		return api.ErrLong
	}
	r.vars.Set(v.Name, v.Value, v.Flav, v.Origin)
	return nil
}

// append puts a value behind what a variable has.
func (r *reader) append(v api.Var) {
	if old, _ := r.vars.Get(v.Name); old.Flav == api.FlavSimple {
		v.Value = r.expand(v.Value)
	}
	if r.withheld(v) {
		return
	}
	// Only now, for the value may have turned the variable.
	length := len(v.Value)
	if old, _ := r.vars.Get(v.Name); old.Value != "" {
		length += len(old.Value) + len(" ")
	}
	if length > api.MaxText {
		r.fail(api.ErrLong)
	}
	r.vars.Append(v.Name, v.Value, v.Origin)
}

// withheld tells whether there is such a variable, of an origin that this one can't turn.
func (r *reader) withheld(v api.Var) bool {
	old, there := r.vars.Get(v.Name)
	return there && old.Origin > v.Origin
}

// aim reads a variable of targets.
func (r *reader) aim(h api.Head) {
	targets := text.Split(r.expand(h.Left))
	v := api.Scoped{Name: h.Name, Value: h.Right, Set: h.Set}
	if word, name := cutWord(h.Name); word == "override" && name != "" {
		v.Name, v.Override = name, true
	}
	v.Name = r.nameOf(v.Name)
	for _, w := range targets {
		r.base.Aims = append(r.base.Aims, api.Aim{Target: rule.Name(w), Var: v})
	}
}

// rule reads a rule, whose sides are expanded.
func (r *reader) rule(h api.Head) {
	made, _, e := rule.Make(h.Left, h.Right, h.Double)
	if e != api.OK {
		r.fail(e)
	}
	if len(r.base.Rules) == api.MaxRules {
		r.fail(api.ErrLong)
	}
	if r.again {
		made.Prereqs, made.Orders, made.Again = nil, nil, h.Right
		if made.Static != "" {
			made.Again = rule.Behind(h.Right)
		}
	}
	made.Targets = wild.Words(r.files, made.Targets)
	made.Prereqs = wild.Words(r.files, made.Prereqs)
	made.Orders = wild.Words(r.files, made.Orders)
	if h.Has {
		made.Has, made.Recipe = true, []string{h.Recipe}
	}
	r.open = len(r.base.Rules)
	r.base.Rules = append(r.base.Rules, made)
	r.again = r.again || slices.Contains(made.Targets, ".SECONDEXPANSION")
	r.suggest(made)
}

const defaultGoal = ".DEFAULT_GOAL"

// suggest makes a rule's first target the default goal, if there is none yet.
func (r *reader) suggest(made api.Rule) {
	goal := made.Targets[0]
	if hidden := strings.HasPrefix(goal, ".") && !strings.Contains(goal, "/"); hidden || made.Pattern {
		return
	}
	if v, _ := r.vars.Get(defaultGoal); v.Value != "" {
		return
	}
	r.base.Goal = goal
	r.must(r.set(api.Var{Name: defaultGoal, Value: goal, Flav: api.FlavSimple, Origin: api.OrigFile}))
}
