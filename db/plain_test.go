package db

import (
	"fmt"
	"math/rand"
	"slices"
	"strings"
	"testing"

	"anvil/api"
)

// A plain telling of the chapter, to hold the calls against: each question goes over all rules anew.

type plainDB struct {
	base  []api.Rule
	plain bool
}

const plainNames = " .PHONY .SUFFIXES .DEFAULT .PRECIOUS .INTERMEDIATE .SECONDARY .SECONDEXPANSION .DELETE_ON_ERROR .IGNORE .SILENT .ONESHELL .NOTPARALLEL "

const plainBuiltin = `%.o: %.c; $(CC) -c $(CFLAGS) -o $@ $<
%: %.o; $(CC) $(LDFLAGS) -o $@ $^
%: %.c; $(CC) $(CFLAGS) -o $@ $<
(%): %; $(AR) $(ARFLAGS) $@ $<`

func (p plainDB) suffixes() []string {
	l := strings.Fields(".out .a .o .c .h")
	if p.plain {
		l = nil
	}
	for _, r := range p.base {
		for _, t := range r.Targets {
			if t != ".SUFFIXES" {
				continue
			}
			if len(r.Prereqs) == 0 {
				l = nil
			}
			l = append(l, r.Prereqs...)
		}
	}
	return l
}

// pair tells the first two suffixes, else the one, that make the target.
func (p plainDB) pair(target string) (s, t string, is bool) {
	l := p.suffixes()
	for _, s := range l {
		for _, t := range l {
			if s+t == target {
				return s, t, true
			}
		}
	}
	return target, "", slices.Contains(l, target)
}

func (p plainDB) told(r api.Rule) api.Rule {
	if len(r.Targets) != 1 || len(r.Prereqs) != 0 || len(r.Orders) != 0 || r.Again != "" || r.Double || !r.Has {
		return r
	}
	if s, t, is := p.pair(r.Targets[0]); is {
		r.Pattern, r.Targets, r.Prereqs = true, []string{"%" + t}, []string{"%" + s}
	}
	return r
}

func (p plainDB) rules() []api.Rule {
	var l []api.Rule
	for _, r := range p.base {
		l = append(l, p.told(r))
	}
	if p.plain {
		return l
	}
	for _, line := range strings.Split(plainBuiltin, "\n") {
		left, right, _ := strings.Cut(line, ": ")
		right, recipe, _ := strings.Cut(right, "; ")
		l = append(l, api.Rule{Targets: []string{left}, Prereqs: []string{right}, Recipe: []string{recipe}, Has: true, Pattern: true, Builtin: true})
	}
	return l
}

func (p plainDB) explicit(name string) []int {
	var l []int
	for at, r := range p.rules() {
		if !r.Pattern && slices.Contains(r.Targets, name) {
			l = append(l, at)
		}
	}
	return l
}

func (p plainDB) implicit() []int {
	var l []int
	rules := p.rules()
next:
	for at, r := range rules {
		if !r.Pattern || !r.Has {
			continue
		}
		for other, o := range rules {
			stronger := !o.Builtin && (r.Builtin || other > at)
			if stronger && o.Pattern && slices.Equal(o.Targets, r.Targets) && slices.Equal(o.Prereqs, r.Prereqs) {
				continue next
			}
		}
		l = append(l, at)
	}
	return l
}

func (p plainDB) named(name string) bool {
next:
	for _, r := range p.rules() {
		if r.Pattern {
			continue
		}
		for _, t := range r.Targets {
			if strings.Contains(plainNames, " "+t+" ") {
				continue next
			}
		}
		if slices.Contains(slices.Concat(r.Targets, r.Prereqs, r.Orders), name) {
			return true
		}
	}
	return false
}

func (p plainDB) special(target, name string) bool {
	all := strings.Contains(" .SILENT .IGNORE .PRECIOUS .SECONDARY ", " "+target+" ")
	for _, r := range p.base {
		if slices.Contains(r.Targets, target) && (slices.Contains(r.Prereqs, name) || all && len(r.Prereqs) == 0) {
			return true
		}
	}
	return false
}

func (p plainDB) has(target string) bool {
	for _, r := range p.base {
		if slices.Contains(r.Targets, target) {
			return true
		}
	}
	return false
}

// hold holds all that is told of the base against the plain telling.
func hold(t *testing.T, rules []api.Rule, plain bool, names []string) {
	t.Helper()
	d, p := New(api.Base{Rules: rules}, plain), plainDB{rules, plain}
	what := fmt.Sprintf("%+v, %v", rules, plain)
	wantRules(t, what, d.Rules(), p.rules())
	if got, want := d.Implicit(), p.implicit(); !slices.Equal(got, want) {
		t.Fatalf("Implicit of %s: %v, not %v", what, got, want)
	}
	for _, name := range names {
		if got, want := d.Explicit(name), p.explicit(name); !slices.Equal(got, want) {
			t.Fatalf("Explicit(%q) of %s: %v, not %v", name, what, got, want)
		}
		if got, want := d.Named(name), p.named(name); got != want {
			t.Fatalf("Named(%q) of %s: %v", name, what, got)
		}
		if got, want := d.Has(name), p.has(name); got != want {
			t.Fatalf("Has(%q) of %s: %v", name, what, got)
		}
		for _, other := range names {
			if got, want := d.Special(name, other), p.special(name, other); got != want {
				t.Fatalf("Special(%q, %q) of %s: %v", name, other, what, got)
			}
		}
	}
}

// grower makes rules of a few words, so that they often have some in common.
type grower struct {
	*rand.Rand
	plains, patterns []string
}

func (g grower) some(words []string, most int) []string {
	var l []string
	for range g.Intn(most + 1) {
		l = append(l, words[g.Intn(len(words))])
	}
	return l
}

func (g grower) rule() api.Rule {
	words := g.plains
	pattern := g.Intn(3) == 0
	if pattern {
		words = g.patterns
	}
	r := api.Rule{Targets: []string{words[g.Intn(len(words))]}, Pattern: pattern}
	if g.Intn(4) == 0 {
		r.Targets = append(r.Targets, g.some(words, 2)...)
	}
	any := slices.Concat(g.plains, g.patterns)
	if g.Intn(2) == 0 {
		r.Prereqs = g.some(any, 2)
	}
	if g.Intn(5) == 0 {
		r.Orders = g.some(any, 2)
	}
	if g.Intn(6) == 0 {
		r.Again = " x"
	}
	if r.Has = g.Intn(4) > 0; r.Has {
		r.Recipe = g.some([]string{"one", "two", ""}, 2)
	}
	double := g.Intn(6) == 0
	r.Double, r.Terminal = double && !pattern, double && pattern
	if !pattern && g.Intn(8) == 0 {
		r.Static = "%"
	}
	return r
}

func TestP1901ToP1903AgainstThePlainTelling(t *testing.T) {
	g := grower{rand.New(rand.NewSource(19)), strings.Fields(".SUFFIXES .SUFFIXES .PHONY .SILENT a b .c .o .c.o .o.c .c.h .a .a.o .q .q.r .r .q.q .c.q .qr q .q.r.q x.o"), strings.Fields("% %.o %.c (%) a% %.q %.r .%")}
	names := append(slices.Concat(g.plains[1:], g.patterns), "")
	for range 5000 {
		var rules []api.Rule
		for range g.Intn(9) {
			rules = append(rules, g.rule())
		}
		hold(t, rules, g.Intn(2) == 0, names)
	}
}

func TestP1901SuffixesAgainstThePlainTelling(t *testing.T) {
	r := rand.New(rand.NewSource(1901))
	for range 4000 {
		var rules []api.Rule
		for range r.Intn(4) {
			x := api.Rule{Targets: []string{".SUFFIXES"}}
			for range r.Intn(5) {
				x.Prereqs = append(x.Prereqs, grown(r, 3))
			}
			rules = append(rules, x)
		}
		for range 5 {
			rules = append(rules, api.Rule{Targets: []string{grown(r, 6)}, Has: true, Recipe: []string{"x"}})
		}
		r.Shuffle(len(rules), func(i, j int) { rules[i], rules[j] = rules[j], rules[i] })
		p := plainDB{rules, r.Intn(2) == 0}
		wantRules(t, fmt.Sprintf("%+v, %v", rules, p.plain), New(api.Base{Rules: rules}, p.plain).Rules(), p.rules())
	}
}

// grown tells a word of two bytes' kinds, so that it can often be parted in more than one way.
func grown(r *rand.Rand, most int) string {
	w := ""
	for range 1 + r.Intn(most) {
		w += string(".c"[r.Intn(2)])
	}
	return w
}
