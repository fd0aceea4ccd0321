package read

import (
	"strings"

	"anvil/api"
	"anvil/gram"
	"anvil/shell"
	"anvil/text"
)

// A reader is an expand.Host: what is expanded may run commands, and may be read.

// Shell tells what a command prints, in one line.
func (r *reader) Shell(command string) (string, error) {
	env, err := r.environment()
	if err != nil {
		return "", err
	}
	done := shell.Run(r.files, env, command, r.texts.Fuel, nil)
	if done.Err != api.OK {
		return "", done.Err
	}
	r.texts.Fuel = done.Fuel
	err = r.set(api.Var{Name: ".SHELLSTATUS", Value: text.Decimal(done.Status), Flav: api.FlavSimple, Origin: api.OrigOverride})
	return strings.ReplaceAll(strings.TrimRight(string(done.Out), "\n"), "\n", " "), err
}

// environment tells the variables that a command sees.
func (r *reader) environment() ([]api.Pair, error) {
	var env []api.Pair
	for _, v := range r.vars.List() {
		if !isShown(v) {
			continue
		}
		value, err := r.texts.Value(v)
		if err != nil {
			return nil, err
		}
		env = append(env, api.Pair{Name: v.Name, Value: value})
	}
	return env, nil
}

// isShown tells whether a command sees a variable: it is exported, or has come from outside, and the shell can name it.
func isShown(v api.Var) bool {
	if v.Name == "" || gram.Name(v.Name) != v.Name {
		return false
	}
	switch v.Export {
	case exported:
		return true
	case unexported:
		return false
	}
	switch v.Origin {
	case api.OrigEnv, api.OrigEnvOver, api.OrigCommand:
		return true
	}
	return false
}

// Eval reads a text within the line that is being expanded. No rule is open at its beginning; the one that was is so again behind it.
func (r *reader) Eval(text string) error {
	if err := r.nested.enter(); err != nil {
		return err
	}
	defer r.nested.leave()
	defer func(open int) { r.open = open }(r.open)
	r.open = none
	return r.read(text)
}

// Note tells what a makefile says.
func (r *reader) Note(number int, text string) {
	r.base.Events = append(r.base.Events, api.Event{Kind: api.EvNote, Num: number, Text: text})
}
