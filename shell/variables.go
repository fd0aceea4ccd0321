package shell

import (
	"slices"
	"strings"

	"anvil/api"
)

// variable is a variable of a shell.
type variable struct {
	api.Pair
	exported bool
}

// variables are a shell's, in the order in which they stand; there is one of a name.
type variables struct{ list []variable }

// exportedOf makes variables of an environment, of which the first one of a name counts.
func exportedOf(env []api.Pair) variables {
	var v variables
	seen := make(map[string]struct{}, len(env))
	for _, p := range env {
		if _, again := seen[p.Name]; !again {
			seen[p.Name] = struct{}{}
			v.list = append(v.list, variable{p, true})
		}
	}
	return v
}

func (v *variables) copied() variables { return variables{slices.Clone(v.list)} }

// at tells the place of a variable; -1, if it is not set.
func (v *variables) at(name string) int {
	return slices.IndexFunc(v.list, func(x variable) bool { return x.Name == name })
}

func (v *variables) find(name string) (string, bool) {
	if i := v.at(name); i >= 0 {
		return v.list[i].Value, true
	}
	return "", false
}

// set sets a variable where it stands, or behind all; whether it is exported stays.
func (v *variables) set(name, value string) {
	if i := v.at(name); i >= 0 {
		v.list[i].Value = value
		return
	}
	v.list = append(v.list, variable{Pair: api.Pair{Name: name, Value: value}})
}

// export exports a variable, if it is set.
func (v *variables) export(name string) {
	if i := v.at(name); i >= 0 {
		v.list[i].exported = true
	}
}

func (v *variables) unset(name string) {
	if i := v.at(name); i >= 0 {
		v.list = slices.Delete(v.list, i, i+1)
	}
}

// adopt sets the variables of others.
func (v *variables) adopt(others variables) {
	for _, x := range others.list {
		v.set(x.Name, x.Value)
	}
}

// environment tells the exported variables, with those of a command among them, in texts of their own: they are handed on to one who may keep them.
func (v *variables) environment(local variables) []api.Pair {
	all := v.copied()
	all.adopt(local)
	var l []api.Pair
	for _, x := range all.list {
		if _, set := local.find(x.Name); x.exported || set {
			l = append(l, api.Pair{Name: strings.Clone(x.Name), Value: strings.Clone(x.Value)})
		}
	}
	return l
}
