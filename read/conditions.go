package read

import (
	"strings"

	"anvil/api"
	"anvil/refs"
	"anvil/text"
)

// stack is a list of things within one another, the innermost one behind.
type stack[T any] struct{ items []T }

func (s *stack[T]) empty() bool { return len(s.items) == 0 }

func (s *stack[T]) push(item T) { s.items = append(s.items, item) }

func (s *stack[T]) pop() { s.items = s.items[:len(s.items)-1] }

// top tells where the innermost one stands, until another one is pushed.
func (s *stack[T]) top() *T { return &s.items[len(s.items)-1] }

// conditional is a conditional that is open.
type conditional struct {
	read bool // its present part is
	done bool // one of its parts was read, or none is to be
	last bool // its present part is the last one
}

// isConditional tells whether a directive is one of those whose lines are looked at wherever they stand.
func isConditional(name string) bool {
	switch name {
	case "else", "endif":
		return true
	}
	return begins(name)
}

// begins tells whether a directive begins a conditional.
func begins(name string) bool {
	switch name {
	case "ifdef", "ifndef", "ifeq", "ifneq":
		return true
	}
	return false
}

// passesOver tells whether the lines are passed over. A conditional among these is passed over as a whole, so that the innermost one tells.
func (r *reader) passesOver() bool { return !r.conds.empty() && !r.conds.top().read }

// passOver looks at a line that is passed over. What a define has is none of the conditionals'.
func (r *reader) passOver(name, words string) {
	switch name {
	case "override":
		if name, _ = r.directive(words); name != "define" {
			return
		}
		fallthrough
	case "define":
		r.body()
	default:
		if isConditional(name) {
			r.table[name](r, name, words)
		}
	}
}

// begin opens a conditional.
func (r *reader) begin(name, words string) {
	c := conditional{done: true}
	if !r.passesOver() {
		c.read = r.holds(name, words)
		c.done = c.read
	}
	if len(r.conds.items) == api.MaxDeep {
		r.fail(api.ErrDeep)
	}
	r.conds.push(c)
}

// otherwise goes on to a conditional's next part.
func (r *reader) otherwise(_, words string) {
	if r.conds.empty() || r.conds.top().last {
		r.fail(api.ErrCond)
	}
	c := *r.conds.top()
	name, condition := r.directive(words)
	switch {
	case strings.Trim(words, blanks) == "":
		c.last = true
		c.read = !c.done
	case !begins(name):
		r.fail(api.ErrCond)
	default:
		c.read = !c.done && r.holds(name, condition)
	}
	c.done = c.done || c.read
	*r.conds.top() = c
}

// end closes a conditional.
func (r *reader) end(_, words string) {
	if r.conds.empty() || strings.Trim(words, blanks) != "" {
		r.fail(api.ErrCond)
	}
	r.conds.pop()
}

// holds tells whether a condition holds.
func (r *reader) holds(name, words string) bool {
	wanted := true
	switch name {
	case "ifndef":
		wanted = false
		fallthrough
	case "ifdef":
		return r.filled(words) == wanted
	case "ifneq":
		wanted = false
	}
	return r.same(words) == wanted
}

// filled tells whether the variable that words name has a value.
func (r *reader) filled(words string) bool {
	l := text.Split(r.expand(words))
	if len(l) != 1 {
		r.fail(api.ErrCond)
	}
	v, _ := r.vars.Get(l[0])
	return v.Value != ""
}

// same tells whether the two texts that words have are the same ones.
func (r *reader) same(words string) bool {
	one, two, ok := sides(strings.TrimRight(words, blanks))
	if !ok {
		r.fail(api.ErrCond)
	}
	one = r.expand(one)
	return one == r.expand(two)
}

// sides tells the two texts between brackets, or in quotes, as they stand, and whether words are that.
func sides(words string) (one, two string, ok bool) {
	inside, bracket := strings.CutPrefix(words, "(")
	if !bracket {
		return quotes(words)
	}
	inside, ok = strings.CutSuffix(inside, ")")
	at := refs.Scan(inside, ",")
	if !ok || at < 0 {
		return "", "", false
	}
	return text.Trim(inside[:at]), text.Trim(inside[at+1:]), true
}

func quotes(words string) (one, two string, ok bool) {
	one, behind, ok := quoted(words)
	if !ok {
		return "", "", false
	}
	two, behind, ok = quoted(strings.TrimLeft(behind, blanks))
	return one, two, ok && behind == ""
}

// quoted tells the text in quotes that s begins with, and what stands behind them.
func quoted(s string) (inside, behind string, ok bool) {
	for _, quote := range [...]string{`"`, `'`} {
		if after, is := strings.CutPrefix(s, quote); is {
			return strings.Cut(after, quote)
		}
	}
	return "", "", false
}
