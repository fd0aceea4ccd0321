package db

import (
	"fmt"
	"reflect"
	"slices"
	"strings"
	"sync"
	"testing"
	"unsafe"

	"anvil/api"
)

// line makes the rule of "targets : prereqs | orders ; recipe" (or with ::, and with nothing from the bar or the ; on).
func line(s string) api.Rule {
	s, recipe, has := strings.Cut(s, ";")
	left, right, _ := strings.Cut(s, ":")
	right, double := strings.CutPrefix(right, ":")
	prereqs, orders, _ := strings.Cut(right, "|")
	r := api.Rule{Targets: strings.Fields(left), Prereqs: strings.Fields(prereqs), Orders: strings.Fields(orders), Has: has}
	if has {
		r.Recipe = []string{strings.TrimSpace(recipe)}
	}
	r.Pattern = strings.Contains(left, "%")
	r.Double, r.Terminal = double && !r.Pattern, double && r.Pattern
	return r
}

func lines(l ...string) []api.Rule {
	var rules []api.Rule
	for _, s := range l {
		rules = append(rules, line(s))
	}
	return rules
}

func made(plain bool, l ...string) *DB { return New(api.Base{Rules: lines(l...)}, plain) }

// settled tells the rules without a difference between nil and an empty list.
func settled(rules []api.Rule) []api.Rule {
	l := slices.Clone(rules)
	for i := range l {
		for _, w := range []*[]string{&l[i].Targets, &l[i].Prereqs, &l[i].Orders, &l[i].Recipe} {
			if len(*w) == 0 {
				*w = nil
			}
		}
	}
	return l
}

func wantRules(t *testing.T, what string, got, want []api.Rule) {
	t.Helper()
	if len(got) != len(want) {
		t.Fatalf("%s: %d rules, not %d", what, len(got), len(want))
	}
	got, want = settled(got), settled(want)
	for i := range want {
		if !reflect.DeepEqual(got[i], want[i]) {
			t.Fatalf("%s: rule %d: %+v, not %+v", what, i, got[i], want[i])
		}
	}
}

func wantPlaces(t *testing.T, what string, got []int, want ...int) {
	t.Helper()
	if !slices.Equal(got, want) {
		t.Errorf("%s: %v, not %v", what, got, want)
	}
}

func wantTold(t *testing.T, what string, got, want bool) {
	t.Helper()
	if got != want {
		t.Errorf("%s: %v, not %v", what, got, want)
	}
}

// theBuiltin are the chapter's, word for word.
func theBuiltin() []api.Rule {
	return []api.Rule{
		{Targets: []string{"%.o"}, Prereqs: []string{"%.c"}, Recipe: []string{"$(CC) -c $(CFLAGS) -o $@ $<"}, Builtin: true, Pattern: true, Has: true},
		{Targets: []string{"%"}, Prereqs: []string{"%.o"}, Recipe: []string{"$(CC) $(LDFLAGS) -o $@ $^"}, Builtin: true, Pattern: true, Has: true},
		{Targets: []string{"%"}, Prereqs: []string{"%.c"}, Recipe: []string{"$(CC) $(CFLAGS) -o $@ $<"}, Builtin: true, Pattern: true, Has: true},
		{Targets: []string{"(%)"}, Prereqs: []string{"%"}, Recipe: []string{"$(AR) $(ARFLAGS) $@ $<"}, Builtin: true, Pattern: true, Has: true},
	}
}

func TestTheChaptersExamples(t *testing.T) {
	d := made(false, ".c.o: ; x")
	wantRules(t, ".c.o: ; x", d.Rules(), append(lines("%.o: %.c ; x"), theBuiltin()...))
	wantPlaces(t, ".c.o: ; x", d.Implicit(), 0, 2, 3, 4)
	wantPlaces(t, "%.o: %.c", made(false, "%.o: %.c").Implicit(), 2, 3, 4)
	d = made(false, ".PHONY: a")
	wantTold(t, "Special of .PHONY: a", d.Special(".PHONY", "a"), true)
	wantTold(t, "Named of .PHONY: a", d.Named("a"), false)
	wantTold(t, "Named of .PHONY: a and a: b", made(false, ".PHONY: a", "a: b").Named("a"), true)
}

func TestP1901AnEmptyBase(t *testing.T) {
	wantRules(t, "an empty base", made(false).Rules(), theBuiltin())
	wantPlaces(t, "an empty base", made(false).Implicit(), 0, 1, 2, 3)
	wantRules(t, "an empty base, plain", made(true).Rules(), nil)
	wantPlaces(t, "an empty base, plain", made(true).Implicit())
}

func TestP1901TheBasesRulesComeFirst(t *testing.T) {
	own := []api.Rule{
		{Targets: []string{"b", "a", "b"}, Prereqs: []string{"y", "x"}, Orders: []string{"q", "p"}, Recipe: []string{"one", "", "two"}, Has: true},
		{Targets: []string{"a.o"}, Prereqs: []string{"%.c"}, Static: "%.o"},
		{Targets: []string{"a"}, Double: true, Again: " $$@.x "},
		{Targets: []string{"%.x", "%.y"}, Prereqs: []string{"%"}, Pattern: true, Terminal: true, Has: true},
		{Targets: []string{"b"}, Has: true},
	}
	wantRules(t, "five rules", New(api.Base{Rules: own}, false).Rules(), append(slices.Clone(own), theBuiltin()...))
	wantRules(t, "five rules, plain", New(api.Base{Rules: own}, true).Rules(), own)
	b := api.Base{Rules: own, Aims: []api.Aim{{Target: "z"}}, Paths: []api.Pair{{Name: "%.z", Value: "y"}}, Files: []string{"makefile"}, Miss: []string{"!m"}, Goal: "g", Events: []api.Event{{Kind: 1}}}
	d := New(b, true)
	wantRules(t, "a base with all else", d.Rules(), own)
	for _, name := range []string{"z", "makefile", "!m", "m", "g", "%.z"} {
		wantTold(t, "Named "+name, d.Named(name), false)
		wantTold(t, "Has "+name, d.Has(name), false)
	}
}

// told tells one rule of the base as "targets: prereqs".
func told(d *DB, at int) string {
	r := d.Rules()[at]
	return strings.Join(r.Targets, " ") + ": " + strings.Join(r.Prereqs, " ")
}

func TestP1901TheSuffixesThatAreThere(t *testing.T) {
	known := strings.Fields(".out .a .o .c .h")
	for _, s := range known {
		target := s + ": ; x"
		if got := told(made(false, target), 0); got != "%: %"+s {
			t.Errorf("%s: %s", target, got)
		}
		if got := told(made(true, target), 0); got != s+": " {
			t.Errorf("%s, plain: %s", target, got)
		}
		for _, other := range known {
			target := s + other + ": ; x"
			if got, want := told(made(false, target), 0), "%"+other+": %"+s; got != want {
				t.Errorf("%s: %s, not %s", target, got, want)
			}
			if got := told(made(true, target), 0); got != s+other+": " {
				t.Errorf("%s, plain: %s", target, got)
			}
		}
	}
	for _, target := range []string{".x", ".c.x", ".x.c", ".c.o.h", "c", "c.o", ".co", ".", "..", ".C", ".c.", "x.c", ".O.c", ".p", ".SUFFIXES"} {
		if got := told(made(false, target+": ; x"), 0); got != target+": " {
			t.Errorf("%s: %s", target, got)
		}
	}
}

func TestP1901SUFFIXES(t *testing.T) {
	for _, x := range []struct {
		rules string // the last one is looked at
		plain bool
		want  string
	}{
		{".SUFFIXES: .q,.q: ; x", false, "%: %.q"},
		{".SUFFIXES: .q,.q: ; x", true, "%: %.q"},
		{".SUFFIXES: .q,.c.q: ; x", false, "%.q: %.c"},
		{".SUFFIXES: .q,.c.q: ; x", true, ".c.q: "},
		{".SUFFIXES: .q .r,.q.r: ; x", true, "%.r: %.q"},
		{".SUFFIXES: .q,.SUFFIXES: .r,.q.r: ; x", true, "%.r: %.q"},
		{".SUFFIXES:,.c.o: ; x", false, ".c.o: "},
		{".SUFFIXES:,.c: ; x", false, ".c: "},
		{".SUFFIXES:,.SUFFIXES: .c,.c: ; x", false, "%: %.c"},
		{".SUFFIXES:,.SUFFIXES: .c,.c.o: ; x", false, ".c.o: "},
		{".SUFFIXES:,.SUFFIXES: .o,.SUFFIXES: .c,.c.o: ; x", false, "%.o: %.c"},
		{".SUFFIXES: .q,.SUFFIXES:,.q: ; x", false, ".q: "},
		{".SUFFIXES: .q,.SUFFIXES:,.SUFFIXES: .r,.q: ; x", false, ".q: "},
		{".SUFFIXES:,.SUFFIXES:,.c: ; x", false, ".c: "},
		{".SUFFIXES: | .q,.q: ; x", false, ".q: "},
		{".SUFFIXES: | .q,.c: ; x", false, ".c: "},
		{"a .SUFFIXES: .q,.q: ; x", false, "%: %.q"},
		{".SUFFIXES a:,.c: ; x", false, ".c: "},
		{".SUFFIXES .SUFFIXES: .q,.q.q: ; x", true, "%.q: %.q"},
		{".SUFFIXES:: .q,.q: ; x", true, "%: %.q"},
		{".SUFFIXES: .q ; y,.q: ; x", true, "%: %.q"},
		{".SUFFIXES: .q .q,.q.q: ; x", true, "%.q: %.q"},
		{".suffixes: .q,.q: ; x", true, ".q: "},
		{"a: .SUFFIXES .q,.q: ; x", true, ".q: "},
		{"SUFFIXES:,.c: ; x", false, "%: %.c"},
		{".SUFFIXES: q r,qr: ; x", true, "%r: %q"},
		{".SUFFIXES: .SUFFIXES,.SUFFIXES: a ; x", true, ".SUFFIXES: a"},
	} {
		rules := strings.Split(x.rules, ",")
		last := rules[len(rules)-1]
		if got := told(made(x.plain, rules...), len(rules)-1); got != x.want {
			t.Errorf("%s, %v: %s, not %s", x.rules, x.plain, got, x.want)
		}
		// The suffixes are all that are there at the end, wherever a rule stands.
		turned := append([]string{last}, rules[:len(rules)-1]...)
		if got := told(made(x.plain, turned...), 0); got != x.want && !strings.HasPrefix(last, ".SUFFIXES") {
			t.Errorf("%s ahead, %v: %s, not %s", x.rules, x.plain, got, x.want)
		}
	}
	q := made(true, ".SUFFIXES: .SUFFIXES", ".x: ; x", ".SUFFIXES: .x")
	wantRules(t, "rules of .SUFFIXES", q.Rules(), lines(".SUFFIXES: .SUFFIXES", "%: %.x ; x", ".SUFFIXES: .x"))
}

func TestP1901TheFirstSuffixesThatMakeTheTarget(t *testing.T) {
	for _, x := range []struct{ suffixes, target, want string }{
		{".a .b .a.b", ".a.b", "%.b: %.a"},
		{".a.b .a .b", ".a.b", "%.b: %.a"},
		{".a.b .a", ".a.b", "%: %.a.b"},
		{".a .a.b .b.c .c", ".a.b.c", "%.b.c: %.a"},
		{".a.b .a .b.c .c", ".a.b.c", "%.c: %.a.b"},
		{".c .b.c .a.b .a", ".a.b.c", "%.c: %.a.b"},
		{".a .a.b .c", ".a.b.c", "%.c: %.a.b"},
		{".a.b .a .b.c", ".a.b.c", "%.b.c: %.a"},
		{".a .a.a", ".a.a.a", "%.a.a: %.a"},
		{".a.a .a", ".a.a.a", "%.a: %.a.a"},
		{".a .a .a.a", ".a.a", "%.a: %.a"},
		{".a .b .c", ".a.b.c", ".a.b.c: "},
		{".a", ".a.a.a", ".a.a.a: "},
		{".a .b", ".b.a", "%.a: %.b"},
		{".a .b", ".", ".: "},
	} {
		if got := told(made(true, ".SUFFIXES: "+x.suffixes, x.target+": ; x"), 1); got != x.want {
			t.Errorf("%s of %s: %s, not %s", x.target, x.suffixes, got, x.want)
		}
	}
}

func TestP1901WhatIsASuffixRule(t *testing.T) {
	is := []api.Rule{{Targets: []string{"%.o"}, Prereqs: []string{"%.c"}, Recipe: []string{"x", "y"}, Has: true, Pattern: true}}
	wantRules(t, "two lines", New(api.Base{Rules: []api.Rule{{Targets: []string{".c.o"}, Recipe: []string{"x", "y"}, Has: true}}}, false).Rules()[:1], is)
	is[0].Recipe = nil
	wantRules(t, "no lines", New(api.Base{Rules: []api.Rule{{Targets: []string{".c.o"}, Has: true}}}, false).Rules()[:1], is)
	for _, s := range []string{".c.o: a ; x", ".c.o: .c ; x", ".c.o: | a ; x", ".c.o:: ; x", ".c.o:", ".c.o a: ; x", ".c.o .c.o: ; x", ".c.o .c.a: ; x", ".c: a ; x", ".c: | a ; x", ".c:: ; x", ".c:", ".c .o: ; x", "a: ; x", "a.c.o: ; x", "%.c.o: ; x"} {
		wantRules(t, s, made(false, s).Rules()[:1], lines(s))
	}
	for _, again := range []string{"a", " ", "$$@"} {
		r := line(".c.o: ; x")
		r.Again = again
		wantRules(t, "Again", New(api.Base{Rules: []api.Rule{r}}, false).Rules()[:1], []api.Rule{r})
	}
}

func TestP1902Explicit(t *testing.T) {
	d := made(false, "x y: p q", "x: r ; do", "%.x: x", "y:: ; a", "y:: ; b", "x x z: x", ".c.o: ; s", ".c.o: x", ".PHONY: x")
	wantPlaces(t, "Explicit x", d.Explicit("x"), 0, 1, 5)
	wantPlaces(t, "Explicit y", d.Explicit("y"), 0, 3, 4)
	wantPlaces(t, "Explicit z", d.Explicit("z"), 5)
	wantPlaces(t, "Explicit .PHONY", d.Explicit(".PHONY"), 8)
	wantPlaces(t, "Explicit of a name with a suffix rule", d.Explicit(".c.o"), 7)
	for _, name := range []string{"p", "q", "r", "%.x", "%.o", "%", "(%)", "%.c", "", "X", "x y", "./x"} {
		wantPlaces(t, "Explicit "+name, d.Explicit(name))
	}
	wantPlaces(t, "Explicit of a name and a Pattern of it", made(true, "%: a", "a: %").Explicit("%"))
}

func TestP1902Implicit(t *testing.T) {
	for _, x := range []struct {
		rules string
		plain bool
		want  []int
	}{
		{"a: b ; x", true, nil},
		{"a: b ; x", false, []int{1, 2, 3, 4}},
		{"%.o: %.c ; a", true, []int{0}},
		{"%.o: %.c ; a,%.o: %.c ; b", true, []int{1}},
		{"%.o: %.c ; a,%.o: %.c ; b,%.o: %.c ; c", true, []int{2}},
		{"%.o: %.c ; a,%.o: %.m ; m,%.o: %.c ; b", true, []int{1, 2}},
		{"%.o: %.c ; a,%.o: %.c", true, nil},
		{"%.o: %.c,%.o: %.c ; a", true, []int{1}},
		{"%.o: %.c ; a,%.o: %.c,%.o: %.m ; c", true, []int{2}},
		{"%.o: %.c", false, []int{2, 3, 4}},
		{"%.o: %.c ; a", false, []int{0, 2, 3, 4}},
		{"%: %.c ; a", false, []int{0, 1, 2, 4}},
		{"%: %.o", false, []int{1, 3, 4}},
		{"(%): %", false, []int{1, 2, 3}},
		{"%: %.o,%: %.c,(%): %,%.o: %.c", false, nil},
		{"%.o: %.c %.h ; a", false, []int{0, 1, 2, 3, 4}},
		{"%.o %.d: %.c ; a", false, []int{0, 1, 2, 3, 4}},
		{"%.o:", false, []int{1, 2, 3, 4}},
		{"%.o: | %.c", false, []int{1, 2, 3, 4}},
		{"%.o: %.c | x", false, []int{2, 3, 4}},
		{"%.o:: %.c", false, []int{2, 3, 4}},
		{"%.o: a b ; a,%.o: b a ; b", true, []int{0, 1}},
		{"%.o %.p: a ; a,%.p %.o: a ; b", true, []int{0, 1}},
		{"%.o %.p: a ; a,%.o %.p: a ; b", true, []int{1}},
		{"%.o %.p: a ; a,%.o: a ; b", true, []int{0, 1}},
		{"%.o: a ; a,%.o: a a ; b", true, []int{0, 1}},
		{"%.o: ; a,%.o: ; b", true, []int{1}},
		{"%.o:: a ; a,%.o: a | q ; b", true, []int{1}},
		{"%.o: a ; a,x: %.o a ; b", true, []int{0}},
		{".c.o: ; x,%.o: %.c ; y", false, []int{1, 3, 4, 5}},
		{"%.o: %.c ; y,.c.o: ; x", false, []int{1, 3, 4, 5}},
		{".c.o: ; x,.c.o: ; y", false, []int{1, 3, 4, 5}},
		{".c.o: ; x,%.o: %.c", false, []int{3, 4, 5}},
		{"%.o: %.c,.c.o: ; x", false, []int{1, 3, 4, 5}},
		{".c: ; x,.o: ; y", false, []int{0, 1, 2, 5}},
		{".c.o: ; x,.SUFFIXES:,%.o: %.c ; y", false, []int{2, 4, 5, 6}},
		{".c.o: a ; x", false, []int{1, 2, 3, 4}},
		{".c.o:", false, []int{1, 2, 3, 4}},
		{"%: ; x", true, []int{0}},
	} {
		if got := made(x.plain, strings.Split(x.rules, ",")...).Implicit(); !slices.Equal(got, x.want) {
			t.Errorf("Implicit of %s, %v: %v, not %v", x.rules, x.plain, got, x.want)
		}
	}
	// A recipe that is empty is one.
	wantPlaces(t, "an empty recipe", New(api.Base{Rules: []api.Rule{{Targets: []string{"%"}, Pattern: true, Has: true}}}, true).Implicit(), 0)
}

// Words that are one text when they are laid side by side are other words all the same.
func TestP1902OtherWordsThatLookAlike(t *testing.T) {
	lists := [][]string{{"%a", "%b"}, {"%a%b"}, {"%a %b"}, {"%a,%b"}, {"%a\x00%b"}, {"%a", " %b"}, {"%a2 %b"}, {"%a", "%b", ""}, {"", "%a", "%b"}, {"2 %a", "%b"}, {"%a\n%b"}, {"%b", "%a"}, {"3%ab6%bcdef"}, {"1", "%ab", "%bcdef"}}
	var rules []api.Rule
	for _, l := range lists {
		rules = append(rules, api.Rule{Targets: []string{"%"}, Prereqs: l, Pattern: true, Has: true})
		rules = append(rules, api.Rule{Targets: l, Pattern: true, Has: true}, api.Rule{Targets: l, Prereqs: []string{"%"}, Pattern: true, Has: true})
	}
	if got := New(api.Base{Rules: rules}, true).Implicit(); len(got) != len(rules) {
		t.Errorf("of %d rules %v count", len(rules), got)
	}
	if got := New(api.Base{Rules: append(slices.Clone(rules), rules...)}, true).Implicit(); len(got) != len(rules) || got[0] != len(rules) {
		t.Errorf("of %d rules twice %v count", len(rules), got)
	}
}

func theNames() []string {
	return strings.Fields(".PHONY .SUFFIXES .DEFAULT .PRECIOUS .INTERMEDIATE .SECONDARY .SECONDEXPANSION .DELETE_ON_ERROR .IGNORE .SILENT .ONESHELL .NOTPARALLEL")
}

func TestP1903Named(t *testing.T) {
	d := made(false, "x y: p q | ord", "z:: | more ; a", "%.t: pp | po", ".PHONY: ph", ".PRECIOUS mixed: mp | mo", "s: .SILENT", ".c.o: ; x", ".mine: .c", "w: v")
	for name, want := range map[string]bool{
		"x": true, "y": true, "p": true, "q": true, "ord": true, "z": true, "more": true, "w": true, "v": true, "s": true,
		"%.t": false, "pp": false, "po": false, "ph": false, "mixed": false, "mp": false, "mo": false, ".PHONY": false, ".PRECIOUS": false,
		".SILENT": true, ".mine": true, ".c": true, ".c.o": false, "%.o": false, "%.c": false, "%": false, "(%)": false, "": false, "none": false, "a": false, "X": false,
	} {
		wantTold(t, "Named "+name, d.Named(name), want)
	}
	for _, name := range theNames() {
		wantTold(t, "Named "+name, made(false, name+": a | b").Named(name), false)
		wantTold(t, "Named of its prerequisite "+name, made(false, name+": a | b").Named("a"), false)
		wantTold(t, "Named of its order-only one "+name, made(false, name+": a | b").Named("b"), false)
		wantTold(t, "Named of what stands beside, "+name, made(false, "c "+name+": a | b").Named("c"), false)
		wantTold(t, "Named as a prerequisite, "+name, made(false, "c: "+name).Named(name), true)
		wantTold(t, "Named of another rule, "+name, made(false, name+": a", "a:").Named("a"), true)
	}
	for _, name := range []string{".phony", "PHONY", ".PHONY.", ".DEFAULT_GOAL", ".EXPORT_ALL_VARIABLES", ".SHELLSTATUS", ".WAIT", ".POSIX"} {
		wantTold(t, "Named "+name, made(false, name+": a").Named(name), true)
		wantTold(t, "Named of its prerequisite "+name, made(false, name+": a").Named("a"), true)
	}
	again := New(api.Base{Rules: []api.Rule{{Targets: []string{"x"}, Again: "again"}}}, true)
	wantTold(t, "Named of Again", again.Named("again"), false)
	wantTold(t, "Named of a static rule's target", New(api.Base{Rules: []api.Rule{{Targets: []string{"x.o"}, Prereqs: []string{"%.c"}, Static: "%.o"}}}, true).Named("x.o"), true)
	wantTold(t, "Named of a suffix rule's target with another rule", made(false, ".c.o: ; x", ".c.o: y").Named(".c.o"), true)
}

func TestP1903Special(t *testing.T) {
	whole := []string{".SILENT", ".IGNORE", ".PRECIOUS", ".SECONDARY"}
	for _, target := range append(theNames(), "x", "%.x", ".silent", ".SILENT.") {
		all := slices.Contains(whole, target)
		for rules, want := range map[string]bool{
			target + ": a":                          true,
			target + ": b a c":                      true,
			target + ": b":                          false,
			target + ": b | a":                      false,
			target + ":":                            all,
			target + ": | a":                        all,
			target + ": b," + target + ":":          all,
			target + ":," + target + ": b":          all,
			target + ": b," + target + ": a":        true,
			target + ": b," + target + ": c":        false,
			"a: " + target:                          false,
			target + ": ; a":                        all,
			target + "x: a":                         false,
			"b:," + target + ": b":                  false,
			"q" + target + ":," + target + "%: a":   false,
			target + " " + target + ": b":           false,
			target + " " + target + "%%: a":         true,
			target + ".x%: b," + target + ": a ; y": true,
		} {
			wantTold(t, "Special("+target+", a) of "+rules, made(true, strings.Split(rules, ",")...).Special(target, "a"), want)
		}
	}
	d := made(false, "x .PHONY: a", ".c.o: ; x", ".SUFFIXES: .SILENT", ".SILENT: ; x")
	for _, x := range []struct {
		target, name string
		want         bool
	}{{"x", "a", true}, {".PHONY", "a", true}, {".PHONY", "x", false}, {"a", "x", false}, {"%.o", "%.c", false}, {".c.o", "%.c", false}, {"(%)", "%", false}, {".SILENT", "any", true}, {"%", "%.SILENT", false}, {"", "", false}, {".PHONY", "", false}} {
		wantTold(t, "Special("+x.target+", "+x.name+")", d.Special(x.target, x.name), x.want)
	}
}

func TestP1903Has(t *testing.T) {
	d := made(false, "x y: p | o", "%.x: %.p", ".SILENT:", ".PHONY: x", ".c.h: ; x", "d:: ; a", "y:")
	for name, want := range map[string]bool{
		"x": true, "y": true, "%.x": true, ".SILENT": true, ".PHONY": true, "d": true, ".c.h": true,
		"p": false, "o": false, "%.p": false, "%.h": false, "%.c": false, "%.o": false, "%": false, "(%)": false, "": false, "none": false, ".c": false, ".ONESHELL": false,
	} {
		wantTold(t, "Has "+name, d.Has(name), want)
	}
	wantTold(t, "Has of a built-in one that the base has", made(false, "%.o: %.q").Has("%.o"), true)
}

// sample is a base that has something of all that is told.
func sample() []api.Rule {
	rules := lines("x y: p q | o ; one", "%.o %.p: %.c | %.d ; two", ".c.o: ; three", ".PHONY: x", ".SUFFIXES: .q .r", ".q.r: ; four", ".SILENT:", "x: r")
	rules = append(rules, api.Rule{Targets: []string{"s.o"}, Static: "%.o", Again: "$$@", Recipe: []string{"five"}, Has: true})
	return rules
}

// same tells whether all that two bases tell is the same.
func same(t *testing.T, what string, d, other *DB) {
	t.Helper()
	wantRules(t, what, d.Rules(), other.Rules())
	wantPlaces(t, what, d.Implicit(), other.Implicit()...)
	for _, name := range strings.Fields("x y p q o r s.o .PHONY .SILENT .SUFFIXES .c.o .q.r %.o % none") {
		wantPlaces(t, what+": Explicit "+name, d.Explicit(name), other.Explicit(name)...)
		wantTold(t, what+": Named "+name, d.Named(name), other.Named(name))
		wantTold(t, what+": Has "+name, d.Has(name), other.Has(name))
		for _, target := range []string{".PHONY", ".SILENT", ".SUFFIXES", "x", "%.o"} {
			wantTold(t, what+": Special "+target+" "+name, d.Special(target, name), other.Special(target, name))
		}
	}
}

// roomy gives each list of the rules room that is filled, so that a write behind its end shows.
func roomy(rules []api.Rule) (l []api.Rule, intact func() bool) {
	var rooms [][]string
	l = slices.Grow(slices.Clone(rules), 3)
	for i := range l {
		for _, w := range []*[]string{&l[i].Targets, &l[i].Prereqs, &l[i].Orders, &l[i].Recipe} {
			n := len(*w)
			room := append(slices.Clone(*w), "#", "#", "#", "#")
			rooms = append(rooms, room[n:])
			*w = room[:n]
		}
	}
	spare := l[len(l):cap(l)]
	return l, func() bool {
		for _, room := range rooms {
			if slices.ContainsFunc(room, func(w string) bool { return w != "#" }) {
				return false
			}
		}
		return !slices.ContainsFunc(spare, func(r api.Rule) bool { return r.Has || r.Targets != nil })
	}
}

func TestP1904WhatIsHandedInIsNotChanged(t *testing.T) {
	rules, intact := roomy(sample())
	d := New(api.Base{Rules: rules}, false)
	same(t, "with room", d, New(api.Base{Rules: sample()}, false))
	d.Rules()
	wantRules(t, "what was handed in", rules, sample())
	wantTold(t, "the spare room", intact(), true)
}

func TestP1904WhatIsHandedInIsNotKept(t *testing.T) {
	rules := sample()
	var bytes [][]byte
	lend := func(s string) string {
		b := []byte(s)
		if len(b) == 0 {
			return ""
		}
		bytes = append(bytes, b)
		return unsafe.String(&b[0], len(b))
	}
	for i := range rules {
		for _, w := range [][]string{rules[i].Targets, rules[i].Prereqs, rules[i].Orders, rules[i].Recipe} {
			for j := range w {
				w[j] = lend(w[j])
			}
		}
		rules[i].Static, rules[i].Again = lend(rules[i].Static), lend(rules[i].Again)
	}
	d := New(api.Base{Rules: rules}, false)
	for _, b := range bytes {
		for i := range b {
			b[i] = '#'
		}
	}
	same(t, "texts written over", d, New(api.Base{Rules: sample()}, false))
	rules = sample()
	d = New(api.Base{Rules: rules}, false)
	for i := range rules {
		for _, w := range [][]string{rules[i].Targets, rules[i].Prereqs, rules[i].Orders, rules[i].Recipe} {
			for j := range w {
				w[j] = "#"
			}
		}
		rules[i] = api.Rule{Targets: []string{"#"}}
	}
	same(t, "lists written over", d, New(api.Base{Rules: sample()}, false))
}

func TestP1904WhatIsAnsweredIsNewMemory(t *testing.T) {
	d, fresh := New(api.Base{Rules: sample()}, false), New(api.Base{Rules: sample()}, false)
	rules := d.Rules()
	other := d.Rules()
	for i := range rules {
		for _, w := range []*[]string{&rules[i].Targets, &rules[i].Prereqs, &rules[i].Orders, &rules[i].Recipe} {
			for j := range *w {
				(*w)[j] = "#"
			}
			*w = append(*w, "#", "#")
		}
	}
	wantRules(t, "the second answer", other, fresh.Rules())
	for i := range rules {
		rules[i] = api.Rule{}
	}
	_ = append(rules, api.Rule{Targets: []string{"#"}})
	for _, l := range [][]int{d.Implicit(), d.Explicit("x"), d.Explicit("y")} {
		for i := range l {
			l[i] = -1
		}
		_ = append(l[:0], make([]int, cap(l))...)
	}
	same(t, "answers written over", d, fresh)
	// The lists of one answer have none of their memory in common either.
	rules = d.Rules()
	for i := range rules {
		for k, w := range [][]string{rules[i].Targets, rules[i].Prereqs, rules[i].Orders, rules[i].Recipe} {
			for j := range w[:cap(w)] {
				w[:cap(w)][j] = fmt.Sprint(i, k, j)
			}
		}
	}
	for i := range rules {
		for k, w := range [][]string{rules[i].Targets, rules[i].Prereqs, rules[i].Orders, rules[i].Recipe} {
			for j := range w {
				if w[j] != fmt.Sprint(i, k, j) {
					t.Errorf("rule %d has memory of another list", i)
				}
			}
		}
	}
	// Nor have two bases.
	first := New(api.Base{}, false)
	for _, r := range first.Rules() {
		r.Targets[0], r.Prereqs[0], r.Recipe[0] = "#", "#", "#"
	}
	wantRules(t, "the built-in ones of another base", New(api.Base{}, false).Rules(), theBuiltin())
	wantRules(t, "the built-in ones of this base", first.Rules(), theBuiltin())
}

func TestP1904AnswersAreTheSameAtOnce(t *testing.T) {
	d := New(api.Base{Rules: sample()}, false)
	var wait sync.WaitGroup
	for range 8 {
		wait.Go(func() { same(t, "at once", d, New(api.Base{Rules: sample()}, false)) })
	}
	wait.Wait()
}

// Of other bases any answer is right, but each call ends.
func TestP1909OtherBases(t *testing.T) {
	words := []string{"", "%", "%%", ".c", ".c.o", ".SUFFIXES", ".SILENT", "a", "\x00\xff", ".", strings.Repeat("%.c", 3000)}
	var rules []api.Rule
	for i, w := range words {
		for _, v := range words {
			rules = append(rules,
				api.Rule{}, api.Rule{Pattern: true, Has: true}, api.Rule{Has: true, Builtin: true, Pattern: i%2 == 0},
				api.Rule{Targets: []string{w}, Prereqs: []string{v}, Pattern: true, Double: true, Terminal: true},
				api.Rule{Targets: []string{w, v}, Builtin: true, Pattern: i%3 == 0, Static: "x", Has: true},
				api.Rule{Targets: []string{w + v}, Has: true, Static: v}, api.Rule{Prereqs: []string{w}, Orders: []string{v}})
		}
	}
	aims := []api.Aim{{}, {Var: api.Scoped{Set: -1}}, {Var: api.Scoped{Set: 9}}}
	for _, d := range []*DB{New(api.Base{Rules: rules, Aims: aims}, false), New(api.Base{Rules: rules, Aims: aims}, true), {}, nil} {
		d.Rules()
		d.Implicit()
		for _, w := range words {
			d.Explicit(w)
			d.Named(w)
			d.Has(w)
			for _, v := range words {
				d.Special(w, v)
			}
		}
	}
	wantTold(t, "New answers a base", New(api.Base{}, true) != nil, true)
}
