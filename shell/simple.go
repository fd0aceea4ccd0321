package shell

import (
	"strings"

	"anvil/api"
	"anvil/gram"
	"anvil/text"
	"anvil/util"
)

func (s *shell) simple(c api.Cmd) error {
	if err := s.spend(); err != nil {
		return err
	}
	w := &wording{shell: s}
	words := w.fields(c.Words)
	w.assign(c.Assigns)
	return w.around(c.Redirs, func() error {
		if len(words) > 0 {
			return s.call(words, w.local)
		}
		s.adopt(w.local)
		s.status = w.ran
		return nil
	})
}

// call runs the words of a command, for which local stands alone. Only a make can see that: export and unset are of the shell's own variables.
func (s *shell) call(words []string, local variables) error {
	switch name, operands := words[0], words[1:]; name {
	case "exit":
		return s.exit(operands)
	case "export":
		s.exports(operands)
		s.status = good
	case "unset":
		s.unsets(operands)
		fallthrough
	case ":":
		s.status = good
	case "make":
		if s.maker != nil {
			return s.make(operands, local)
		}
		fallthrough
	default:
		s.utility(words)
	}
	return nil
}

func (s *shell) exit(operands []string) error {
	if len(operands) == 0 {
		return &ended{s.status}
	}
	n, ok := text.Number(operands[0])
	if !ok {
		return &ended{wrong}
	}
	return &ended{n % statuses}
}

func (s *shell) exports(operands []string) {
	for _, w := range operands {
		name, value, sets := strings.Cut(w, "=")
		if !isName(name) {
			continue
		}
		if sets {
			s.set(name, value)
		}
		s.export(name)
	}
}

func (s *shell) unsets(operands []string) {
	for _, name := range operands {
		if isName(name) {
			s.unset(name)
		}
	}
}

func isName(s string) bool { return s != "" && gram.Name(s) == s }

func (s *shell) make(operands []string, local variables) error {
	d := s.ask(operands, s.environment(local))
	if d.Err == api.ErrFuel {
		return d.Err
	}
	s.out.print(d.Out)
	s.status, s.fuel = d.Status, max(d.Fuel, 0)
	return nil
}

// ask asks the maker. It is not the shell's: if it panics, it is a command that can't go on.
func (s *shell) ask(operands []string, env []api.Pair) (d api.Done) {
	defer func() {
		if recover() != nil {
			d = api.Done{Status: wrong, Fuel: s.fuel}
		}
	}()
	return s.maker.Make(operands, env, s.fuel)
}

func (s *shell) utility(words []string) {
	out, status, known := util.Run(s.fs, words, s.in)
	if !known {
		status = unknown
	}
	s.out.print(out)
	s.status = status
}
