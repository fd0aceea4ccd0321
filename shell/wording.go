package shell

import (
	"errors"
	"strings"

	"anvil/api"
	"anvil/field"
)

// wording expands what stands in one command: its words, its assignments, its redirections. What can't be expanded is trouble, which panics.
type wording struct {
	shell *shell
	local variables // the assignments by now
	ran   int       // the status of the last command in a word
	kept  *variables
}

func (w *wording) fields(words []string) []string {
	return expanded(w, func(h field.Host) ([]string, error) { return h.Fields(w.shell.fs, words) })
}

func (w *wording) text(word string) string {
	return expanded(w, func(h field.Host) (string, error) { return h.Text(word) })
}

func (w *wording) pattern(word string) string {
	return expanded(w, func(h field.Host) (string, error) { return h.Pattern(word) })
}

// expanded makes one expansion. One that is an error has set nothing: the shell's variables are kept from ahead of the first one that it sets, and the assignments go with the command.
func expanded[T any](w *wording, expand func(field.Host) (T, error)) T {
	w.kept = nil
	told, err := expand(field.Host{Find: w.find, Set: w.set, Print: w.print, Status: w.shell.status})
	if err != nil {
		if w.kept != nil {
			w.shell.variables = *w.kept
		}
		panic(&trouble{wrong, err})
	}
	return told
}

func (w *wording) find(name string) (string, bool) {
	if value, set := w.local.find(name); set {
		return value, true
	}
	return w.shell.find(name)
}

// set sets a variable for a word, where it stands: among the assignments, or in the shell.
func (w *wording) set(name, value string) {
	if _, set := w.local.find(name); set {
		w.local.set(name, value)
		return
	}
	if w.kept == nil {
		before := w.shell.copied()
		w.kept = &before
	}
	w.shell.set(name, value)
}

// print runs a command in a word, in a subshell.
func (w *wording) print(command string) (string, error) {
	t := w.shell.sub()
	t.adopt(w.local)
	t.out = &output{}
	err := t.script(command)
	w.ran = t.status
	return string(t.out.bytes), err
}

func (w *wording) assign(assigns []string) {
	for _, a := range assigns {
		name, word, _ := strings.Cut(a, "=")
		w.local.set(name, w.text(word))
	}
}

// target is where redirections lead.
type target struct {
	streams
	file    string
	written bool // out is the file's
}

// around makes redirections, and runs a body within them.
func (w *wording) around(redirs []api.Redir, body func() error) error {
	to := target{streams: w.shell.streams}
	for _, r := range redirs {
		w.redirect(&to, r)
	}
	err := w.shell.within(to.streams, body)
	if !to.written || len(to.out.bytes) == 0 || errors.Is(err, api.ErrFuel) {
		return err
	}
	if w.shell.fs.Write(to.file, to.out.bytes, true) != api.OK {
		return w.shell.unwritten(err)
	}
	return err
}

func (w *wording) redirect(to *target, r api.Redir) {
	file := w.text(r.Word)
	add := true
	var e api.Errno
	switch r.Op {
	case "<":
		to.in, e = w.shell.fs.Read(file)
	case ">":
		add = false
		fallthrough
	case ">>":
		e = w.shell.fs.Write(file, nil, add)
		to.file, to.written, to.out = file, true, &output{}
	}
	if e != api.OK {
		panic(&trouble{failed, e})
	}
}

// within runs a body with these streams, whichever way that ends.
func (s *shell) within(these streams, body func() error) error {
	before := s.streams
	defer func() { s.streams = before }()
	s.streams = these
	return body()
}

// unwritten tells that what was printed could not be written: an exit goes on as one that failed.
func (s *shell) unwritten(err error) error {
	s.status = failed
	var end *ended
	if errors.As(err, &end) {
		return &ended{failed}
	}
	return nil
}
