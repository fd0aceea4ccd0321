package expand

import (
	"errors"
	"fmt"
	"slices"
	"strings"
	"testing"

	"anvil/api"
	"anvil/vars"
)

// guest is a host that does what its functions say, and keeps in mind what it was asked.
type guest struct {
	asked []string
	shell func(string) (string, error)
	eval  func(string) error
}

func (g *guest) Shell(command string) (string, error) {
	g.asked = append(g.asked, "shell "+command)
	if g.shell == nil {
		return "<" + command + ">", nil
	}
	return g.shell(command)
}

func (g *guest) Eval(text string) error {
	g.asked = append(g.asked, "eval "+text)
	if g.eval == nil {
		return nil
	}
	return g.eval(text)
}

func (g *guest) Note(number int, text string) {
	g.asked = append(g.asked, fmt.Sprintf("note %d %s", number, text))
}

func TestAHostIsAsked(t *testing.T) {
	for text, want := range map[string]struct {
		value string
		asked []string
	}{
		"a$(shell b c)d":                       {"a<b c>d", []string{"shell b c"}},
		"$(shell  $(a) )":                      {"<x.c y.c >", []string{"shell x.c y.c "}},
		"a$(eval b = $(n))c":                   {"ac", []string{"eval b = a"}},
		"$(eval b = $$(n))":                    {"", []string{"eval b = $(n)"}},
		"$(warning a,b)$(info  c )x":           {"x", []string{"note 4 a,b", "note 5 c "}},
		"$(info $(shell a))":                   {"", []string{"shell a", "note 5 <a>"}},
		"$(call shell,a)$(call eval,b)":        {"<a>", []string{"shell a", "eval b"}},
		"$(call info,a,b)$(call warning,c)":    {"", []string{"note 5 a", "note 4 c"}},
		"$(foreach i,1 2,$(shell $(i)))":       {"<1> <2>", []string{"shell 1", "shell 2"}},
		"$(if ,$(shell a),$(eval b)c)":         {"c", []string{"eval b"}},
		"$(or ,a,$(shell b))$(and ,$(eval b))": {"a", nil},
	} {
		g := &guest{}
		x := New(usual(t), nil, plenty, g)
		if got, err := x.Text(text); got != want.value || err != nil || !slices.Equal(g.asked, want.asked) {
			t.Errorf("%q: %q, %v, %q", text, got, err, g.asked)
		}
	}
}

func TestAHostsErrorsAndThoseBesideIt(t *testing.T) {
	for text, want := range map[string]struct {
		e     api.Errno
		asked []string
	}{
		"$(error a b)x":             {api.ErrUser, []string{"note 6 a b"}},
		"$(info a)$(error  $(n))":   {api.ErrUser, []string{"note 5 a", "note 6 a"}},
		"$(call error,x)":           {api.ErrUser, []string{"note 6 x"}},
		"$(shell a)$(shell b)":      {api.ErrSpace, []string{"shell a"}},
		"$(eval a)$(eval b)":        {api.ErrTab, []string{"eval a"}},
		"$(strip $(if a,$(eval )))": {api.ErrTab, []string{"eval "}},
		"$(shell $(error x))":       {api.ErrUser, []string{"note 6 x"}},
		"$(shell $(r))":             {api.ErrSelf, nil},
		"$(shell a)$(eval b)$(x":    {api.ErrRef, nil},
	} {
		g := &guest{shell: func(string) (string, error) { return "", api.ErrSpace }, eval: func(string) error { return api.ErrTab }}
		x := New(usual(t), nil, plenty, g)
		got, err := x.Text(text)
		if got != "" || !errors.Is(err, want.e) || !slices.Equal(g.asked, want.asked) {
			t.Errorf("%q: %q, %v, %q", text, got, err, g.asked)
		}
	}
	g := &guest{shell: func(string) (string, error) { return strings.Repeat("x", api.MaxText+1), nil }}
	if got, err := New(usual(t), nil, plenty, g).Text("$(if $(shell a),b)"); got != "" || !errors.Is(err, api.ErrLong) {
		t.Errorf("a host that says too much: %q, %v", got, err)
	}
}

func TestAHostSpendsTheSameFuel(t *testing.T) {
	var x *Expander
	spends := func(n int) error {
		if x.Fuel < n {
			return api.ErrFuel
		}
		x.Fuel -= n
		return nil
	}
	g := &guest{shell: func(s string) (string, error) { return "", spends(len(s)) }, eval: func(s string) error { return spends(len(s)) }}
	for text, cost := range map[string]int{"$(shell abc)": 4, "$(eval abc)$a": 5, "$(shell )": 1, "$(foreach i,1 2,$(shell $(i)))": 7, "$(error x)": 1} {
		for fuel := range cost + 3 {
			x = New(usual(t), nil, fuel, g)
			_, err := x.Text(text)
			if fuel < cost != errors.Is(err, api.ErrFuel) || fuel >= cost && x.Fuel != fuel-cost {
				t.Errorf("%q with %d: %d, %v", text, fuel, x.Fuel, err)
			}
		}
	}
	if x = New(usual(t), nil, -5, g); x.Fuel != 0 {
		t.Errorf("fuel below 0: %d", x.Fuel)
	}
}

func TestAHostSeesAndSetsTheStoreItself(t *testing.T) {
	s := usual(t)
	var x *Expander
	var seen []string
	g := &guest{eval: func(name string) error {
		v, _ := s.Get("i")
		first, _ := s.Get("1")
		seen = append(seen, v.Value+first.Value)
		s.Set("i", "no", api.FlavSimple, api.OrigOverride)
		s.Set(name, "set "+v.Value, api.FlavSimple, api.OrigFile)
		return nil
	}}
	x = New(s, nil, plenty, g)
	s.Set("ask", "$(eval n$(1))$(n$(1))", api.FlavRecursive, api.OrigFile)
	got, err := x.Text("$(foreach i,p q,$(eval v$(i))$(v$(i)))$(call ask,z)$(i)")
	if want := "set p set qset no"; got != want || err != nil || !slices.Equal(seen, []string{"pone", "qone", "z"}) {
		t.Errorf("%q, %v, %q", got, err, seen)
	}
	if v, _ := s.Get("vq"); v.Value != "set q" {
		t.Errorf("what a host sets is gone: %+v", v)
	}
	if v, _ := s.Get("i"); v.Value != "no" || v.Origin != api.OrigOverride {
		t.Errorf("what was lent is left: %+v", v)
	}
	// Whatever ends an expansion, what was lent is put back.
	for _, text := range []string{"$(foreach i,p q,$(error x))", "$(call ask,$(r))", "$(foreach i,p,$(foreach j,1,$(call f,$(r))))"} {
		before := s.List()
		if _, err := x.Text(text); err == nil || !slices.Equal(before, s.List()) {
			t.Errorf("%q: %v, %+v", text, err, s.List())
		}
	}
}

func TestAHostExpandsWithinAnExpansion(t *testing.T) {
	s := holding(t, recursive("a", "$(eval $$(a))"), recursive("b", "$(eval $$(d))$(shell d)"), recursive("d", "x"), recursive("e", "$(shell e)"), simple("long", strings.Repeat("x", api.MaxText+1)))
	var x *Expander
	g := &guest{
		eval: func(text string) error { _, err := x.Text(text); return err },
		shell: func(name string) (string, error) {
			v, _ := s.Get(name)
			return x.Value(v)
		},
	}
	x = New(s, nil, plenty, g)
	for text, want := range map[string]error{"$(a)": api.ErrSelf, "$(b)$(b)": nil, "$(e)": api.ErrSelf, "$(shell e)": api.ErrSelf, "$(shell b)": nil, "$(eval $$(e))": api.ErrSelf, "$(eval $$(eval $$$$(b)))": nil, "$(shell long)": api.ErrLong} {
		if got, err := x.Text(text); want == nil && err != nil || !errors.Is(err, want) || err != nil && got != "" {
			t.Errorf("%q: %q, %v", text, got, err)
		}
	}
	// A value that is not recursive is told as it stands.
	if got, err := x.Value(simple("long", strings.Repeat("$", api.MaxText+1))); len(got) != api.MaxText+1 || err != nil {
		t.Errorf("a simple value: %d bytes, %v", len(got), err)
	}
	// What is within an eval is within no part; what is within a shell is within its part.
	deep := func(name string, n int) string {
		return strings.Repeat("$(if ,,", n) + "$(" + name + ")" + strings.Repeat(")", n)
	}
	s.Set("sixty", nested(60), api.FlavRecursive, api.OrigFile)
	s.Set("ten", nested(10), api.FlavRecursive, api.OrigFile)
	for text, want := range map[string]error{
		"$(if ,,$(eval )" + nested(59) + ")": nil, "$(if ,,$(eval )" + nested(60) + ")": api.ErrDeep,
		deep("eval $(value sixty)", 58): nil, deep("eval $(value sixty)", 59): api.ErrDeep, deep("shell ten", 49): nil, deep("shell ten", 50): api.ErrDeep, "$(eval $(value sixty))" + nested(60): nil, "$(eval $(value sixty))" + nested(61): api.ErrDeep,
	} {
		if _, err := x.Text(text); want == nil && err != nil || !errors.Is(err, want) {
			t.Errorf("%.40q: %v", text, err)
		}
	}
}

func TestWithoutAHost(t *testing.T) {
	s := vars.New()
	for text, want := range map[string]api.Errno{"$(shell a)": api.ErrHost, "$(eval a)": api.ErrHost, "$(error a)": api.ErrUser, "$(info a)$(warning b)": api.OK} {
		if got, _, e := Expand(s, nil, text, plenty); got != "" || e != want {
			t.Errorf("%q: %q, %d", text, got, int(e))
		}
	}
}
